/-
  The engine, part 2: a region that draws its order, by ONE walk in an order of our choice.
-/
import Derived.Test.YtkfnadpdcgcffaaDoorE1
namespace Go.Proofs.YtkfnadpdcgcffaaDoor
open Go.RowKit

section
variable {P : Program} {G : Cls} {ro : Option Nat} {md : Region.Mode} {ops : Array Oper} {N : Nat} {ds : List Deferred} {E : Oper → Bool} {Q : Exit → Act → World → Prop}

/-- Whatever order is picked from here on, in every world of the class. -/
def TreeC (P : Program) (G : Cls) (ro : Option Nat) (md : Region.Mode) (ops : Array Oper) (Q : Exit → Act → World → Prop) (E : Oper → Bool) : Nat → Array Bool → Act → Cls → Prop
  | 0, listed, a, C => Region.ready md ops listed = [] ∧ ∀ w, C w → Q .normal a w
  | f + 1, listed, a, C => (Region.ready md ops listed = [] → ∀ w, C w → Q .normal a w) ∧
      ∀ i ∈ Region.ready md ops listed, ∀ o, ops[i]? = some o →
        bif E o then ∀ w, C w → Region.wanted o (yielded ops a.tmps) = true ∧
          o.wpIn (FW ro) 0 P a w (fun a' w' => ∃ C', Good G C' ∧ C' w' ∧ (E (growOf o) = true → ∀ w, C' w → C w) ∧ TreeC P G ro md ops Q E f (listed.setIfInBounds i true) a' C') (fun _ _ _ => False)
        else ∃ v, YieldsW P ro ops (clsOf G o C) o v a ∧ TreeC P G ro md ops Q E f (listed.setIfInBounds i true) (a.put o.dst v) C

theorem wpAnyIn_of_tree : ∀ (f : Nat) (listed : Array Bool) (a : Act) (C : Cls) (w : World), Good G C → C w → TreeC P G ro md ops Q E f listed a C → wpAnyIn (FW ro) 0 P md ops Q f listed a w
  | 0, _, _, _, w, _, hw, h => ⟨h.1, h.2 w hw⟩
  | f + 1, listed, a, C, w, hS, hw, h => by
    refine ⟨fun h0 => h.1 h0 w hw, fun i hi => ?_⟩
    obtain ⟨_, o, ho, _⟩ := mem_ready.1 hi
    have h1 := h.2 i hi o ho
    unfold wpOpIn
    simp only [ho]
    cases hE : E o with
    | true =>
      rw [hE] at h1
      obtain ⟨hwant, hwp⟩ := h1 w hw
      rw [if_pos hwant]
      refine Oper.wpIn_exits (Oper.wpIn_mono (fun a' w' hk => ?_) hwp)
      obtain ⟨C', hS', hw', _, hk⟩ := hk
      exact wpAnyIn_of_tree f _ _ C' w' hS' hw' hk
    | false =>
      rw [hE] at h1
      obtain ⟨v, hy, hk⟩ := h1
      rcases hy with ⟨hwant, hy⟩ | ⟨hwant, rfl⟩
      · rw [if_pos hwant]
        exact hy.wpIn (clsOf_of hS hw) fun w' hg => wpAnyIn_of_tree f _ _ C w' hS (hS.1 _ _ hw hg) hk
      · rw [if_neg (by simp [hwant])]
        exact ⟨fun f _ => fence_fn ro f, wpAnyIn_of_tree f _ _ C w hS hw hk⟩

/-- The operation looks the same in both states. -/
def SameAt (ro : Option Nat) (ops : Array Oper) (o : Oper) (a a' : Act) : Prop :=
  o.semAt ro a'.eval = o.semAt ro a.eval ∧ Region.wanted o (yielded ops a'.tmps) = Region.wanted o (yielded ops a.tmps)
theorem SameAt.yields {o : Oper} {a a' : Act} {C : Cls} {v : Value} (h : SameAt ro ops o a a') (hy : YieldsW P ro ops C o v a) : YieldsW P ro ops C o v a' := by
  unfold YieldsW YieldsC at *
  rw [h.1, h.2]
  exact hy

theorem YieldsW.mono {o : Oper} {a : Act} {C C' : Cls} {v : Value} (hy : YieldsW P ro ops C o v a) (h : ∀ w, C' w → C w) : YieldsW P ro ops C' o v a := by
  rcases hy with ⟨hw, hy⟩ | hy
  · exact .inl ⟨hw, fun w hw => hy w (h w hw)⟩
  · exact .inr hy

def noDefer (ops : Array Oper) : Bool := ops.all fun o => match o.op with | .defer _ => false | _ => true
theorem noDefer_spec (h : noDefer ops = true) (j : Nat) (o : Oper) (c : Call) (ho : ops[j]? = some o) : o.op ≠ .defer c := by
  intro heq
  have := Array.all_eq_true_iff_forall_mem.1 h o (Array.mem_of_getElem? ho)
  simp [heq] at this

theorem semAt_put {o : Oper} (hs : ∀ cs b, o.op ≠ .select cs b) (hd : ∀ c, o.op ≠ .defer c) (a : Act) (dst : Option Tmp) (v : Value) (h : ∀ d, dst = some d → d ∉ o.looksAt ops) :
    o.semAt ro (a.put dst v).eval = o.semAt ro a.eval := by
  rw [Oper.semAt_eq _ _ _ hd, Oper.semAt_eq _ _ _ hd, execOp_put o hs a dst v h]

/-- An operation apart from 'oi': whether 'oi''s value is already in its slot makes no difference to it, and it makes none to 'oi'. -/
theorem wpIn_put {oi oj : Oper} {v : Value} (hap : oi.apart ops oj = true) (hsi : ∀ cs b, oi.op ≠ .select cs b) (hsj : ∀ cs b, oj.op ≠ .select cs b) (hdi : ∀ c, oi.op ≠ .defer c) (hdj : ∀ c, oj.op ≠ .defer c)
    {K : Act → World → Prop} {a : Act} {w : World} (h : oj.wpIn (FW ro) 0 P (a.put oi.dst v) w K (fun _ _ _ => False)) :
    oj.wpIn (FW ro) 0 P a w (fun a' w' => SameAt ro ops oi a a' ∧ K (a'.put oi.dst v) w') (fun _ _ _ => False) := by
  obtain ⟨h1, h2, h3⟩ := Oper.apart_spec hap
  have keep : ∀ u, SameAt ro ops oi a (a.put oj.dst u) := fun u => ⟨semAt_put hsi hdi a oj.dst u h3, wanted_put oi a oj.dst u h3⟩
  unfold Oper.wpIn at *
  refine ⟨fun f _ => fence_fn ro f, ?_⟩
  have h := h.2
  rw [show (FW ro).round = ro from rfl, semAt_put hsj hdj a oi.dst v h1] at h
  rw [show (FW ro).round = ro from rfl]
  generalize (oj.semAt ro a.eval).run P w = r at *
  cases r with
  | ok x w' =>
    cases x <;> simp only [Oper.uponIn] at h ⊢
    case value u => exact ⟨keep u, by rw [← Act.put_comm a v u h2]; exact h⟩
    case skip => exact ⟨keep _, by rw [← Act.put_comm a v undef h2]; exact h⟩
    case defer d =>
      refine ⟨?_, ?_⟩
      · have := keep undef
        refine ⟨?_, ?_⟩
        · rw [← this.1, Oper.semAt_eq _ _ _ hdi, Oper.semAt_eq _ _ _ hdi]
          refine execOp_congr oi hsi fun x _ => ?_
          cases x <;> first | rfl | (cases oj.dst <;> rfl)
        · rw [← this.2]; cases oj.dst <;> rfl
      · rw [← Act.put_comm _ v undef h2, ← Act.put_defers]
        exact h
    case enter f args =>
      refine ⟨h.1, CallsIn.mono h.2 fun e w'' he => ?_⟩
      cases e with
      | returned u => exact ⟨keep u, by rw [← Act.put_comm a v u h2]; exact he⟩
      | panicked c => exact he
      | outgrown => exact he
    case row row args => exact ⟨h.1, RowsIn.mono h.2 fun u w'' he => ⟨keep u, by rw [← Act.put_comm a v u h2]; exact he⟩⟩
    case round l f tmps assign body =>
      refine ⟨h.1, RoundIn.mono h.2 fun e w'' he => ?_⟩
      cases e with
      | returned u => exact ⟨keep u, by rw [← Act.put_comm a v u h2]; exact he⟩
      | panicked c => exact he
      | outgrown => exact he
  | halt x w' => cases x <;> simp only [Oper.uponIn] at h ⊢

/-! ### Who waits for whom -/
def waits (md : Region.Mode) (ops : Array Oper) (j i : Nat) : Bool :=
  match ops[j]? with
  | some oj => oj.after.any fun e => Region.binds md e && Nat.beq e.on i
  | none => false
/-- j waits for i, in one step or more (the least such relation). -/
def Reach (md : Region.Mode) (ops : Array Oper) (j i : Nat) : Prop := ∀ R : Nat → Prop, (∀ i, waits md ops j i = true → R i) → (∀ k i, R k → waits md ops k i = true → R i) → R i
theorem Reach.one {md : Region.Mode} {ops : Array Oper} {j i : Nat} (h : waits md ops j i = true) : Reach md ops j i := fun _ h1 _ => h1 i h
theorem Reach.step {md : Region.Mode} {ops : Array Oper} {j k i : Nat} (h : Reach md ops j k) (h' : waits md ops k i = true) : Reach md ops j i := fun R h1 h2 => h2 k i (h R h1 h2) h'
def Closed (md : Region.Mode) (ops : Array Oper) (listed : Array Bool) : Prop :=
  ∀ j i, waits md ops j i = true → listed.getD j false = true → listed.getD i false = true

theorem waits_spec {j i : Nat} (h : waits md ops j i = true) : ∃ oj, ops[j]? = some oj ∧ ∃ e ∈ oj.after, Region.binds md e = true ∧ e.on = i := by
  unfold waits at h
  split at h
  · rename_i oj hj
    obtain ⟨e, he, hb⟩ := Array.any_eq_true'.1 h
    simp only [Bool.and_eq_true] at hb
    exact ⟨oj, hj, e, he, hb.1, Nat.eq_of_beq_eq_true hb.2⟩
  · cases h
theorem ready_waits {j i : Nat} {listed : Array Bool} (hr : j ∈ Region.ready md ops listed) (h : waits md ops j i = true) : listed.getD i false = true := by
  obtain ⟨oj, hj, e, he, hb, rfl⟩ := waits_spec h
  obtain ⟨_, o, ho, hall⟩ := mem_ready.1 hr
  cases hj.symm.trans ho
  exact hall e he hb
theorem reach_out {i : Nat} {listed : Array Bool} (hc : Closed md ops listed) (hi : listed.getD i false = false) {j : Nat} (h : Reach md ops j i) : listed.getD j false = false ∧ j ∉ Region.ready md ops listed := by
  refine h (fun i => listed.getD i false = false → listed.getD j false = false ∧ j ∉ Region.ready md ops listed) (fun i h hi => ⟨?_, fun hr => ?_⟩) (fun k i ih h' hi => ih ?_) hi
  · cases hl : listed.getD j false with
    | false => rfl
    | true => rw [hc _ _ h hl] at hi; cases hi
  · rw [ready_waits hr h] at hi; cases hi
  · cases hl : listed.getD k false with
    | false => rfl
    | true => rw [hc _ _ h' hl] at hi; cases hi
theorem Closed.set {i : Nat} {listed : Array Bool} (hc : Closed md ops listed) (hi : i ∈ Region.ready md ops listed) : Closed md ops (listed.setIfInBounds i true) := by
  intro j k hjk hj
  by_cases hij : i = j
  · subst hij
    exact getD_set_true (ready_waits hi hjk)
  · rw [getD_set_ne false hij] at hj
    exact getD_set_true (hc j k hjk hj)
theorem getD_unlisted {listed : Array Bool} {i : Nat} (h : listed.getD i true = false) : listed.getD i false = false := by
  rcases Nat.lt_or_ge i listed.size with h' | h'
  · simp [h'] at h ⊢; exact h
  · simp [Array.getElem?_eq_none h'] at h

/-- **An operation that leaves the class alone may be taken first.** -/
theorem tree_first {i : Nat} {oi : Oper} {v : Value} (hi : ops[i]? = some oi) (hEi : E oi = false) (hsel : ∀ (j : Nat) (o : Oper) cs b, ops[j]? = some o → o.op ≠ .select cs b)
    (hdef : ∀ (j : Nat) (o : Oper) c, ops[j]? = some o → o.op ≠ .defer c) :
    ∀ (f : Nat) (listed : Array Bool) (a : Act) (C : Cls), Closed md ops listed →
      (∀ j oj, ops[j]? = some oj → j ≠ i → listed.getD j true = false → (∀ e ∈ oj.after, Region.binds md e = true → e.on ≠ i) → oi.apart ops oj = true) →
      (isRead oi = true → ∀ j oj, ops[j]? = some oj → E oj = true → listed.getD j true = false → E (growOf oj) = true ∨ Reach md ops j i) →
      i ∈ Region.ready md ops listed → YieldsW P ro ops (clsOf G oi C) oi v a →
      TreeC P G ro md ops Q E f (listed.setIfInBounds i true) (a.put oi.dst v) C → TreeC P G ro md ops Q E (f + 1) listed a C := by
  intro f
  induction f with
  | zero =>
    intro listed a C _ _ _ hr hy H
    refine ⟨fun h => (by rw [h] at hr; cases hr), fun j hj o ho => ?_⟩
    by_cases hji : j = i
    · subst hji
      cases hi.symm.trans ho
      rw [hEi]
      exact ⟨v, hy, H⟩
    · have := ready_mono hj hji
      rw [H.1] at this
      cases this
  | succ f ih =>
    intro listed a C hc hfree hblk hr hy H
    refine ⟨fun h => (by rw [h] at hr; cases hr), fun j hj oj hoj => ?_⟩
    by_cases hji : j = i
    · subst hji
      cases hi.symm.trans hoj
      rw [hEi]
      exact ⟨v, hy, H⟩
    have h1 := H.2 j (ready_mono hj hji) oj hoj
    obtain ⟨hjun, _, hoj', hall⟩ := mem_ready.1 hj
    cases hoj.symm.trans hoj'
    have hiun := getD_unlisted (mem_ready.1 hr).1
    have hnot : ∀ e ∈ oj.after, Region.binds md e = true → e.on ≠ i := fun e he hb heq => by
      have h1 := hall e he hb
      rw [heq, hiun] at h1; cases h1
    have hap := hfree j oj hoj hji hjun hnot
    have hfree' : ∀ k ok, ops[k]? = some ok → k ≠ i → (listed.setIfInBounds j true).getD k true = false →
        (∀ e ∈ ok.after, Region.binds md e = true → e.on ≠ i) → oi.apart ops ok = true := fun k ok hk hki hun hno => by
      refine hfree k ok hk hki ?_ hno
      by_cases hjk : j = k
      · subst hjk; exact hjun
      · rw [getD_set_ne true hjk] at hun; exact hun
    have hblk' : isRead oi = true → ∀ k ok, ops[k]? = some ok → E ok = true → (listed.setIfInBounds j true).getD k true = false → E (growOf ok) = true ∨ Reach md ops k i := fun hrd k ok hk hEk hun => by
      refine hblk hrd k ok hk hEk ?_
      by_cases hjk : j = k
      · subst hjk; exact hjun
      · rw [getD_set_ne true hjk] at hun; exact hun
    cases hE : E oj with
    | true =>
      rw [hE] at h1
      have hnr : isRead oi = false ∨ E (growOf oj) = true := by
        cases hrd : isRead oi with
        | false => exact .inl rfl
        | true =>
          rcases hblk hrd j oj hoj hE hjun with h0 | h0
          · exact .inr h0
          · exact absurd hj (reach_out hc hiun h0).2
      intro w hw
      obtain ⟨hwant, hwp⟩ := h1 w hw
      obtain ⟨p1, p2, p3⟩ := Oper.apart_spec hap
      refine ⟨by rw [wanted_put oj a oi.dst v p1] at hwant; exact hwant, ?_⟩
      refine Oper.wpIn_mono (fun a' w' hk => ?_) (wpIn_put hap (fun cs b => hsel i oi cs b hi) (fun cs b => hsel j oj cs b hoj) (fun c => hdef i oi c hi) (fun c => hdef j oj c hoj) hwp)
      obtain ⟨hsame, C', hS', hw', hgr, hk⟩ := hk
      refine ⟨C', hS', hw', hgr, ih (listed.setIfInBounds j true) a' C' (hc.set hj) hfree' hblk' (ready_mono hr (Ne.symm hji)) (hsame.yields ?_) ?_⟩
      · refine hy.mono fun w0 h0 => ?_
        rcases hnr with hnr | hnr
        · unfold clsOf at h0 ⊢; rw [hnr] at h0 ⊢; exact h0
        · unfold clsOf at h0 ⊢
          by_cases hrd : isRead oi = true
          · rw [if_pos hrd] at h0 ⊢; exact ⟨hgr hnr w0 h0.1, h0.2⟩
          · rw [if_neg hrd] at h0 ⊢; exact h0
      · rw [Array.setIfInBounds_comm _ _ hji]; exact hk
    | false =>
      rw [hE] at h1
      obtain ⟨u, hyu, hk⟩ := h1
      obtain ⟨p1, p2, p3⟩ := Oper.apart_spec hap
      have hsi := fun cs b => hsel i oi cs b hi
      have hsj := fun cs b => hsel j oj cs b hoj
      have hdi := fun c => hdef i oi c hi
      have hdj := fun c => hdef j oj c hoj
      have s1 : SameAt ro ops oj (a.put oi.dst v) a := ⟨(semAt_put hsj hdj a oi.dst v p1).symm, (wanted_put oj a oi.dst v p1).symm⟩
      have s2 : SameAt ro ops oi a (a.put oj.dst u) := ⟨semAt_put hsi hdi a oj.dst u p3, wanted_put oi a oj.dst u p3⟩
      refine ⟨u, s1.yields hyu, ih (listed.setIfInBounds j true) _ C (hc.set hj) hfree' hblk' (ready_mono hr (Ne.symm hji)) (s2.yields hy) ?_⟩
      rw [Array.setIfInBounds_comm _ _ hji, ← Act.put_comm a v u p2]
      exact hk

/-! ### The check, by the kernel -/
def clo (md : Region.Mode) (ops : Array Oper) : List Nat → List Nat → List Nat
  | [], S => S
  | k :: ks, S => bif S.any (fun s => waits md ops s k) then clo md ops ks (k :: S) else clo md ops ks S
theorem clo_spec {j : Nat} : ∀ (ks S : List Nat), (∀ s ∈ S, s = j ∨ Reach md ops j s) → ∀ s ∈ clo md ops ks S, s = j ∨ Reach md ops j s
  | [], _, h => h
  | k :: ks, S, h => by
    unfold clo
    cases hb : S.any (fun s => waits md ops s k) with
    | false => exact clo_spec ks S h
    | true =>
      refine clo_spec ks (k :: S) fun s hs => ?_
      rcases List.mem_cons.1 hs with rfl | hs
      · obtain ⟨x, hx, hw⟩ := List.any_eq_true.1 hb
        rcases h x hx with rfl | hr
        · exact .inr (.one hw)
        · exact .inr (.step hr hw)
      · exact h s hs
def reachB (md : Region.Mode) (ops : Array Oper) (j i : Nat) : Bool := !Nat.beq i j && (clo md ops (List.range j).reverse [j]).any (Nat.beq i)
theorem reachB_spec {j i : Nat} (h : reachB md ops j i = true) : Reach md ops j i := by
  simp only [reachB, Bool.and_eq_true] at h
  obtain ⟨h0, h⟩ := h
  obtain ⟨s, hs, he⟩ := List.any_eq_true.1 h
  have he := Nat.eq_of_beq_eq_true he
  subst he
  rcases clo_spec (j := j) _ [j] (fun s hs => .inl (by simpa using hs)) i hs with rfl | hr
  · simp at h0
  · exact hr

def okFrom (md : Region.Mode) (ops : Array Oper) (E : Oper → Bool) : List Nat → Array Bool → Bool
  | [], listed => (Region.ready md ops listed).isEmpty
  | k :: σ, listed =>
    match ops[k]? with
    | none => false
    | some o =>
      (Region.ready md ops listed).contains k &&
      (bif E o then decide (Region.ready md ops listed = [k])
       else Region.free md ops listed k && (!isRead o || (List.range ops.size).all fun j => listed.getD j true || !((ops[j]?).any E) || (ops[j]?).any (fun oj => E (growOf oj)) || reachB md ops j k)) &&
      okFrom md ops E σ (listed.setIfInBounds k true)

theorem tree_of_Lx {Z : Fr → Cls → Prop} (hZ : ∀ F C, Good G C → Z F C → After N ds Q .normal F C) (hsel : Region.noSelect ops = true) (hdef : noDefer ops = true) :
    ∀ (σ : List Nat) (listed : Array Bool) (F : Fr) (C : Cls) (a : Act), Closed md ops listed → okFrom md ops E σ listed = true → Has N ds F a → Good G C →
      Lx P G ro ops N ds E Z (σ.filterMap (ops[·]?)) F C → TreeC P G ro md ops Q E σ.length listed a C
  | [], listed, F, C, a, _, hok, ha, hS, h => ⟨by simpa [okFrom] using hok, fun w hw => hZ F C hS h a w ha hw⟩
  | k :: σ, listed, F, C, a, hc, hok, ha, hS, h => by
    unfold okFrom at hok
    cases ho : ops[k]? with
    | none => simp [ho] at hok
    | some o =>
      simp only [ho, Bool.and_eq_true] at hok
      obtain ⟨⟨hr, hcase⟩, hok'⟩ := hok
      have hr' : k ∈ Region.ready md ops listed := by simpa using hr
      have hl : (k :: σ).filterMap (ops[·]?) = o :: σ.filterMap (ops[·]?) := by simp [ho]
      rw [hl] at h
      unfold Lx at h
      cases hE : E o with
      | true =>
        rw [hE] at h hcase
        have hone : Region.ready md ops listed = [k] := by simpa using hcase
        refine ⟨fun h0 => (by rw [h0] at hone; cases hone), fun i hi oi hoi => ?_⟩
        rw [hone] at hi
        have : i = k := by simpa using hi
        subst this
        cases ho.symm.trans hoi
        rw [hE]
        intro w hw
        obtain ⟨hwant, hwp⟩ := h a w ha hw
        refine ⟨hwant, Oper.wpIn_mono (fun a' w' hk => ?_) hwp⟩
        obtain ⟨F', C', ha', hS', hw', hgr, hk⟩ := hk
        exact ⟨C', hS', hw', hgr, tree_of_Lx hZ hsel hdef σ _ F' C' a' (hc.set hr') hok' ha' hS' hk⟩
      | false =>
        rw [hE] at h hcase
        simp only [cond_false, Bool.and_eq_true, Bool.or_eq_true, Bool.not_eq_true'] at hcase
        obtain ⟨v, ⟨hd, hy⟩, hk⟩ := h
        refine tree_first ho hE (Region.noSelect_spec hsel) (noDefer_spec hdef) σ.length listed a C hc (Region.free_spec ho hcase.1) (fun hrd j oj hoj hEj hun => ?_) hr' (hy a ha)
          (tree_of_Lx hZ hsel hdef σ _ _ C _ (hc.set hr') hok' (ha.putF hd v) hS hk)
        rcases hcase.2 with h0 | h0
        · rw [hrd] at h0; cases h0
        · have := List.all_eq_true.1 h0 j (List.mem_range.2 (Array.getElem?_eq_some_iff.1 hoj).1)
          simp [hun, hoj, hEj] at this
          rcases this with h1 | h1
          · exact .inl h1
          · exact .inr (reachB_spec h1)
end

/-- **A REGION THAT DRAWS ITS ORDER.** -/
theorem wpIn_draw {P : Program} {G : Cls} {ro : Option Nat} {l : List Oper} {N : Nat} {ds : List Deferred} {E : Oper → Bool} {Q : Exit → Act → World → Prop} {id : Nat} {F : Fr} {C : Cls} {a : Act} {w : World} {Z : Fr → Cls → Prop}
    (σ : List Nat) (hm : P.follows .mixedOrders = true) (hlen : σ.length = l.length) (hsel : Region.noSelect l.toArray = true) (hdef : noDefer l.toArray = true)
    (hok : okFrom .any l.toArray E σ (Array.replicate l.toArray.size false) = true)
    (hZ : ∀ F C, Good G C → Z F C → After N ds Q .normal F C)
    (h : Lx P G ro l.toArray N ds E Z (σ.filterMap (l.toArray[·]?)) F C) (hS : Good G C) (ha : Has N ds F a) (hw : C w) :
    (Code.region id l.toArray true).wpIn (FW ro) 0 P Q a w := by
  refine wpIn_region_any hm ?_
  have hc : Closed .any l.toArray (Array.replicate l.toArray.size false) := fun j i _ hj => by
    rcases Nat.lt_or_ge j l.toArray.size with h' | h'
    · simp at h'; simp [h'] at hj
    · simp at h'; simp [h'] at hj
  have := tree_of_Lx hZ hsel hdef σ _ F C a hc hok ha hS h
  rw [hlen] at this
  exact wpAnyIn_of_tree _ _ _ C _ hS (hS.1 w _ hw ((Below.refl _ w).drew)) this

theorem wpIn_plain {P : Program} {G : Cls} {ro : Option Nat} {l : List Oper} {N : Nat} {ds : List Deferred} {E : Oper → Bool} {Q : Exit → Act → World → Prop} {id : Nat} {F : Fr} {C : Cls} {a : Act} {w : World} {Z : Fr → Cls → Prop}
    (hZ : ∀ F C, Good G C → Z F C → After N ds Q .normal F C)
    (h : Lx P G ro l.toArray N ds E Z l F C) (hS : Good G C) (ha : Has N ds F a) (hw : C w) :
    (Code.region id l.toArray false).wpIn (FW ro) 0 P Q a w :=
  wpIn_region_lit (wpListIn_of_Lx hZ l F C hS h a w ha hw)

end Go.Proofs.YtkfnadpdcgcffaaDoor
