/-
  The engine, part 24: a region that draws its order, where a store and a read of another variable may come in either order.
-/
import Derived.Test.YteohckfbphdngaaE23
namespace Go.Proofs.Yteohckfbphdngaa
open Go.RowKit
section
variable {P : Program} {G : Cls} {ro : Option Nat} {md : Region.Mode} {ops : Array Oper} {N : Nat} {ds : List Deferred} {E : Oper → Bool} {Q : Exit → Act → World → Prop} {KK' : Cls → Prop} {mk rk : Oper → Bool}
def TreeK (P : Program) (G : Cls) (ro : Option Nat) (md : Region.Mode) (ops : Array Oper) (Q : Exit → Act → World → Prop) (E : Oper → Bool) (KK' : Cls → Prop) (mk : Oper → Bool) : Nat → Array Bool → Act → Cls → Prop
  | 0, listed, a, C => Region.ready md ops listed = [] ∧ ∀ w, C w → Q .normal a w
  | f + 1, listed, a, C => (Region.ready md ops listed = [] → ∀ w, C w → Q .normal a w) ∧
      ∀ i ∈ Region.ready md ops listed, ∀ o, ops[i]? = some o →
        bif E o then ∀ w, C w → Region.wanted o (yielded ops a.tmps) = true ∧
          o.wpIn (FW ro) 0 P a w (fun a' w' => ∃ C', Good G C' ∧ C' w' ∧ (mk o = true → ∀ X, KK' X → (∀ w, C w → X w) → ∀ w, C' w → X w) ∧ TreeK P G ro md ops Q E KK' mk f (listed.setIfInBounds i true) a' C') (fun _ _ _ => False)
        else ∃ v X, (∀ w, C w → X w) ∧ YieldsW P ro ops (clsOf G o X) o v a ∧ TreeK P G ro md ops Q E KK' mk f (listed.setIfInBounds i true) (a.put o.dst v) C
theorem clsOf_up {o : Oper} {C X : Cls} {w : World} (hS : Good G C) (hX : ∀ w, C w → X w) (h : C w) : clsOf G o X w := by
  unfold clsOf
  split
  · exact ⟨hX w h, hS.2 w h⟩
  · exact hS.2 w h
theorem wpAnyIn_of_treeK : ∀ (f : Nat) (listed : Array Bool) (a : Act) (C : Cls) (w : World), Good G C → C w → TreeK P G ro md ops Q E KK' mk f listed a C → wpAnyIn (FW ro) 0 P md ops Q f listed a w
  | 0, _, _, _, w, _, hw, h => ⟨h.1, h.2 w hw⟩
  | f + 1, listed, a, C, w, hS, hw, h => by
    refine ⟨fun h0 => h.1 h0 w hw, fun i hi => ?_⟩
    obtain ⟨_, o, ho, _⟩ := mem_ready.1 hi
    have h1 := h.2 i hi o ho
    unfold wpOpIn
    simp only [ho]
    cases hE : E o with
    | true =>
      rw [hE] at h1
      obtain ⟨hwant, hwp⟩ := h1 w hw
      rw [if_pos hwant]
      refine Oper.wpIn_exits (Oper.wpIn_mono (fun a' w' hk => ?_) hwp)
      obtain ⟨C', hS', hw', _, hk⟩ := hk
      exact wpAnyIn_of_treeK f _ _ C' w' hS' hw' hk
    | false =>
      rw [hE] at h1
      obtain ⟨v, X, hX, hy, hk⟩ := h1
      rcases hy with ⟨hwant, hy⟩ | ⟨hwant, rfl⟩
      · rw [if_pos hwant]
        exact hy.wpIn (clsOf_up hS hX hw) fun w' hg => wpAnyIn_of_treeK f _ _ C w' hS (hS.1 _ _ hw hg) hk
      · rw [if_neg (by simp [hwant])]
        exact ⟨fun f _ => fence_fn ro f, wpAnyIn_of_treeK f _ _ C w hS hw hk⟩
/-- An operation that leaves the class alone may be taken first. -/
theorem tree_firstK {i : Nat} {oi : Oper} {v : Value} (hi : ops[i]? = some oi) (hEi : E oi = false) (hrr : rk oi = true → isRead oi = true) (hsel : ∀ (j : Nat) (o : Oper) cs b, ops[j]? = some o → o.op ≠ .select cs b)
    (hdef : ∀ (j : Nat) (o : Oper) c, ops[j]? = some o → o.op ≠ .defer c) :
    ∀ (f : Nat) (listed : Array Bool) (a : Act) (C X : Cls), Closed md ops listed →
      (∀ j oj, ops[j]? = some oj → j ≠ i → listed.getD j true = false → (∀ e ∈ oj.after, Region.binds md e = true → e.on ≠ i) → oi.apart ops oj = true) →
      (isRead oi = true → ∀ j oj, ops[j]? = some oj → E oj = true → listed.getD j true = false → (rk oi = true ∧ mk oj = true) ∨ Reach md ops j i) → (rk oi = true → KK' X) → (∀ w, C w → X w) →
      i ∈ Region.ready md ops listed → YieldsW P ro ops (clsOf G oi X) oi v a →
      TreeK P G ro md ops Q E KK' mk f (listed.setIfInBounds i true) (a.put oi.dst v) C → TreeK P G ro md ops Q E KK' mk (f + 1) listed a C := by
  intro f
  induction f with
  | zero =>
    intro listed a C X _ _ _ _ hX hr hy H
    refine ⟨fun h => (by rw [h] at hr; cases hr), fun j hj o ho => ?_⟩
    by_cases hji : j = i
    · subst hji
      cases hi.symm.trans ho
      rw [hEi]
      exact ⟨v, X, hX, hy, H⟩
    · have := ready_mono hj hji
      rw [H.1] at this
      cases this
  | succ f ih =>
    intro listed a C X hc hfree hblk hKX hX hr hy H
    refine ⟨fun h => (by rw [h] at hr; cases hr), fun j hj oj hoj => ?_⟩
    by_cases hji : j = i
    · subst hji
      cases hi.symm.trans hoj
      rw [hEi]
      exact ⟨v, X, hX, hy, H⟩
    have h1 := H.2 j (ready_mono hj hji) oj hoj
    obtain ⟨hjun, _, hoj', hall⟩ := mem_ready.1 hj
    cases hoj.symm.trans hoj'
    have hiun := getD_unlisted (mem_ready.1 hr).1
    have hnot : ∀ e ∈ oj.after, Region.binds md e = true → e.on ≠ i := fun e he hb heq => by
      have h1 := hall e he hb
      rw [heq, hiun] at h1; cases h1
    have hap := hfree j oj hoj hji hjun hnot
    have hfree' : ∀ k ok, ops[k]? = some ok → k ≠ i → (listed.setIfInBounds j true).getD k true = false →
        (∀ e ∈ ok.after, Region.binds md e = true → e.on ≠ i) → oi.apart ops ok = true := fun k ok hk hki hun hno => by
      refine hfree k ok hk hki ?_ hno
      by_cases hjk : j = k
      · subst hjk; exact hjun
      · rw [getD_set_ne true hjk] at hun; exact hun
    have hblk' : isRead oi = true → ∀ k ok, ops[k]? = some ok → E ok = true → (listed.setIfInBounds j true).getD k true = false → (rk oi = true ∧ mk ok = true) ∨ Reach md ops k i := fun hrd k ok hk hEk hun => by
      refine hblk hrd k ok hk hEk ?_
      by_cases hjk : j = k
      · subst hjk; exact hjun
      · rw [getD_set_ne true hjk] at hun; exact hun
    cases hE : E oj with
    | true =>
      rw [hE] at h1
      have hnr : isRead oi = false ∨ (rk oi = true ∧ mk oj = true) := by
        cases hrd : isRead oi with
        | false => exact .inl rfl
        | true =>
          rcases hblk hrd j oj hoj hE hjun with h0 | h0
          · exact .inr h0
          · exact absurd hj (reach_out hc hiun h0).2
      intro w hw
      obtain ⟨hwant, hwp⟩ := h1 w hw
      obtain ⟨p1, p2, p3⟩ := Oper.apart_spec hap
      refine ⟨by rw [wanted_put oj a oi.dst v p1] at hwant; exact hwant, ?_⟩
      refine Oper.wpIn_mono (fun a' w' hk => ?_) (wpIn_put hap (fun cs b => hsel i oi cs b hi) (fun cs b => hsel j oj cs b hoj) (fun c => hdef i oi c hi) (fun c => hdef j oj c hoj) hwp)
      obtain ⟨hsame, C', hS', hw', hgr, hk⟩ := hk
      rcases hnr with hnr | ⟨hr1, hr2⟩
      · refine ⟨C', hS', hw', hgr, ih (listed.setIfInBounds j true) a' C' (fun w => C' w ∨ X w) (hc.set hj) hfree' hblk' (fun h => ?_) (fun _ h => .inl h) (ready_mono hr (Ne.symm hji)) (hsame.yields ?_) ?_⟩
        · exact absurd (hrr h) (by rw [hnr]; decide)
        · refine hy.mono fun w0 h0 => ?_
          unfold clsOf at h0 ⊢; rw [hnr] at h0 ⊢; exact h0
        · rw [Array.setIfInBounds_comm _ _ hji]; exact hk
      · refine ⟨C', hS', hw', hgr, ih (listed.setIfInBounds j true) a' C' X (hc.set hj) hfree' hblk' hKX (hgr hr2 X (hKX hr1) hX) (ready_mono hr (Ne.symm hji)) (hsame.yields hy) ?_⟩
        rw [Array.setIfInBounds_comm _ _ hji]; exact hk
    | false =>
      rw [hE] at h1
      obtain ⟨u, Xj, hXj, hyu, hk⟩ := h1
      obtain ⟨p1, p2, p3⟩ := Oper.apart_spec hap
      have hsi := fun cs b => hsel i oi cs b hi
      have hsj := fun cs b => hsel j oj cs b hoj
      have hdi := fun c => hdef i oi c hi
      have hdj := fun c => hdef j oj c hoj
      have s1 : SameAt ro ops oj (a.put oi.dst v) a := ⟨(semAt_put hsj hdj a oi.dst v p1).symm, (wanted_put oj a oi.dst v p1).symm⟩
      have s2 : SameAt ro ops oi a (a.put oj.dst u) := ⟨semAt_put hsi hdi a oj.dst u p3, wanted_put oi a oj.dst u p3⟩
      refine ⟨u, Xj, hXj, s1.yields hyu, ih (listed.setIfInBounds j true) _ C X (hc.set hj) hfree' hblk' hKX hX (ready_mono hr (Ne.symm hji)) (s2.yields hy) ?_⟩
      rw [Array.setIfInBounds_comm _ _ hji, ← Act.put_comm a v u p2]
      exact hk

def LxK (P : Program) (G : Cls) (ro : Option Nat) (ops : Array Oper) (N : Nat) (ds : List Deferred) (E : Oper → Bool) (KK' : Cls → Prop) (mk rk : Oper → Bool) (Z : Fr → Cls → Prop) : List Oper → Fr → Cls → Prop
  | [], F, C => Z F C
  | o :: rest, F, C =>
    bif E o then EStep P G ro ops N ds o F C (fun F' C' => (mk o = true → ∀ X, KK' X → (∀ w, C w → X w) → ∀ w, C' w → X w) ∧ LxK P G ro ops N ds E KK' mk rk Z rest F' C')
    else ∃ X v, (∀ w, C w → X w) ∧ (rk o = true → KK' X) ∧ QStep P G ro ops N ds o F X v ∧ LxK P G ro ops N ds E KK' mk rk Z rest (putF o.dst v F) C
theorem lxk_nil {Z : Fr → Cls → Prop} {F : Fr} {C : Cls} (h : Z F C) : LxK P G ro ops N ds E KK' mk rk Z [] F C := h
theorem lxk_q {Z : Fr → Cls → Prop} {o : Oper} {rest : List Oper} {F : Fr} {C X : Cls} (hE : E o = false) (hX : ∀ w, C w → X w) (hk : rk o = true → KK' X) (h : Lx P G ro ops N ds E (fun F' _ => LxK P G ro ops N ds E KK' mk rk Z rest F' C) [o] F X) : LxK P G ro ops N ds E KK' mk rk Z (o :: rest) F C := by
  unfold LxK
  unfold Lx at h
  rw [hE] at h ⊢
  obtain ⟨v, hq, hr⟩ := h
  exact ⟨X, v, hX, hk, hq, hr⟩
/-- In the class itself, where no store may come ahead of it. -/
theorem lxk_s {Z : Fr → Cls → Prop} {o : Oper} {rest : List Oper} {F : Fr} {C : Cls} (hE : E o = false) (hk : rk o = false) (h : Lx P G ro ops N ds E (fun F' _ => LxK P G ro ops N ds E KK' mk rk Z rest F' C) [o] F C) : LxK P G ro ops N ds E KK' mk rk Z (o :: rest) F C :=
  lxk_q hE (fun _ h => h) (fun h => by rw [hk] at h; cases h) h
theorem lxk_e {Z : Fr → Cls → Prop} {o : Oper} {rest : List Oper} {F : Fr} {C : Cls} (hE : E o = true) (h : Lx P G ro ops N ds E (fun F' C' => (mk o = true → ∀ X, KK' X → (∀ w, C w → X w) → ∀ w, C' w → X w) ∧ LxK P G ro ops N ds E KK' mk rk Z rest F' C') [o] F C) : LxK P G ro ops N ds E KK' mk rk Z (o :: rest) F C := by
  unfold LxK
  unfold Lx at h
  rw [hE] at h ⊢
  intro a w ha hw
  obtain ⟨h1, h2⟩ := h a w ha hw
  exact ⟨h1, Oper.wpIn_mono (fun a' w' ⟨F', C', x1, x2, x3, _, x4⟩ => ⟨F', C', x1, x2, x3, x4⟩) h2⟩
def okFromK (md : Region.Mode) (ops : Array Oper) (E mk rk : Oper → Bool) : List Nat → Array Bool → Bool
  | [], listed => (Region.ready md ops listed).isEmpty
  | k :: σ, listed =>
    match ops[k]? with
    | none => false
    | some o =>
      (Region.ready md ops listed).contains k &&
      (bif E o then decide (Region.ready md ops listed = [k])
       else Region.free md ops listed k && (!isRead o || (List.range ops.size).all fun j => listed.getD j true || !((ops[j]?).any E) || (rk o && (ops[j]?).any mk) || reachB md ops j k) && (!rk o || isRead o)) &&
      okFromK md ops E mk rk σ (listed.setIfInBounds k true)
theorem tree_of_LxK {Z : Fr → Cls → Prop} (hZ : ∀ F C, Good G C → Z F C → After N ds Q .normal F C) (hsel : Region.noSelect ops = true) (hdef : noDefer ops = true) :
    ∀ (σ : List Nat) (listed : Array Bool) (F : Fr) (C : Cls) (a : Act), Closed md ops listed → okFromK md ops E mk rk σ listed = true → Has N ds F a → Good G C →
      LxK P G ro ops N ds E KK' mk rk Z (σ.filterMap (ops[·]?)) F C → TreeK P G ro md ops Q E KK' mk σ.length listed a C
  | [], listed, F, C, a, _, hok, ha, hS, h => ⟨by simpa [okFromK] using hok, fun w hw => hZ F C hS h a w ha hw⟩
  | k :: σ, listed, F, C, a, hc, hok, ha, hS, h => by
    unfold okFromK at hok
    cases ho : ops[k]? with
    | none => simp [ho] at hok
    | some o =>
      simp only [ho, Bool.and_eq_true] at hok
      obtain ⟨⟨hr, hcase⟩, hok'⟩ := hok
      have hr' : k ∈ Region.ready md ops listed := by simpa using hr
      have hl : (k :: σ).filterMap (ops[·]?) = o :: σ.filterMap (ops[·]?) := by simp [ho]
      rw [hl] at h
      unfold LxK at h
      cases hE : E o with
      | true =>
        rw [hE] at h hcase
        have hone : Region.ready md ops listed = [k] := by simpa using hcase
        refine ⟨fun h0 => (by rw [h0] at hone; cases hone), fun i hi oi hoi => ?_⟩
        rw [hone] at hi
        have : i = k := by simpa using hi
        subst this
        cases ho.symm.trans hoi
        rw [hE]
        intro w hw
        obtain ⟨hwant, hwp⟩ := h a w ha hw
        refine ⟨hwant, Oper.wpIn_mono (fun a' w' hk => ?_) hwp⟩
        obtain ⟨F', C', ha', hS', hw', hgr, hk⟩ := hk
        exact ⟨C', hS', hw', hgr, tree_of_LxK hZ hsel hdef σ _ F' C' a' (hc.set hr') hok' ha' hS' hk⟩
      | false =>
        rw [hE] at h hcase
        simp only [cond_false, Bool.and_eq_true, Bool.or_eq_true, Bool.not_eq_true'] at hcase
        obtain ⟨⟨hfr, hrd0⟩, hrk⟩ := hcase
        obtain ⟨X, v, hX, hKX, ⟨hd, hy⟩, hk⟩ := h
        refine tree_firstK (rk := rk) ho hE (fun h0 => by rcases hrk with h1 | h1; rw [h0] at h1; cases h1; exact h1) (Region.noSelect_spec hsel) (noDefer_spec hdef) σ.length listed a C X hc (Region.free_spec ho hfr) (fun hrd j oj hoj hEj hun => ?_) hKX hX hr' (hy a ha)
          (tree_of_LxK hZ hsel hdef σ _ _ C _ (hc.set hr') hok' (ha.putF hd v) hS hk)
        rcases hrd0 with h0 | h0
        · rw [hrd] at h0; cases h0
        · have := List.all_eq_true.1 h0 j (List.mem_range.2 (Array.getElem?_eq_some_iff.1 hoj).1)
          simp [hun, hoj, hEj] at this
          rcases this with h1 | h1
          · exact .inl h1
          · exact .inr (reachB_spec h1)
end
section
variable {P : Program} {G : Cls} {ro : Option Nat} {N : Nat} {ds : List Deferred} {F : Fr} {C : Cls} {K : KK}
theorem x_drawK {id : Nat} {l : List Oper} {E : Oper → Bool} (KK' : Cls → Prop) (mk rk : Oper → Bool) (σ : List Nat) (hm : P.follows .mixedOrders = true) (hlen : σ.length = l.length) (hsel : Region.noSelect l.toArray = true) (hdef : noDefer l.toArray = true)
    (hok : okFromK .any l.toArray E mk rk σ (Array.replicate l.toArray.size false) = true) (h : LxK P G ro l.toArray N ds E KK' mk rk (K .normal ds) (pickL σ l) F C) : X P G ro N ds (.region id l.toArray true) F C K := fun hS a w ha hw => by
  refine wpIn_region_any hm ?_
  have hc : Closed .any l.toArray (Array.replicate l.toArray.size false) := fun j i _ hj => by
    rcases Nat.lt_or_ge j l.toArray.size with h' | h'
    · simp at h'; simp [h'] at hj
    · simp at h'; simp [h'] at hj
  have key := tree_of_LxK (P := P) (G := G) (ro := ro) (md := .any) (N := N) (ds := ds) (E := E) (Q := fun e a' w' => ∃ ds' F' C', Good G C' ∧ Has N ds' F' a' ∧ C' w' ∧ K e ds' F' C') (Z := K .normal ds) (fun F' C' hS' hk a' w' ha' hw' => ⟨ds, F', C', hS', ha', hw', hk⟩) hsel hdef σ _ F C a hc hok ha hS (by rw [pickL_eq]; exact h)
  rw [hlen] at key
  exact wpAnyIn_of_treeK _ _ _ C _ hS (hS.1 w _ hw ((Below.refl _ w).drew)) key
theorem xs_drawK {id : Nat} {l : List Oper} {E : Oper → Bool} {y : Code} (KK' : Cls → Prop) (mk rk : Oper → Bool) (σ : List Nat) (hm : P.follows .mixedOrders = true) (hlen : σ.length = l.length) (hsel : Region.noSelect l.toArray = true) (hdef : noDefer l.toArray = true)
    (hok : okFromK .any l.toArray E mk rk σ (Array.replicate l.toArray.size false) = true) (h : LxK P G ro l.toArray N ds E KK' mk rk (fun F' C' => X P G ro N ds y F' C' K) (pickL σ l) F C) : X P G ro N ds (.seq (.region id l.toArray true) y) F C K :=
  x_seq (x_drawK KK' mk rk σ hm hlen hsel hdef hok h)
end
def rkB (rs : List Nat) (o : Oper) : Bool := match o.dst with
  | some d => rs.any (Nat.beq d)
  | none => false
def mkB (ms : List Nat) (o : Oper) : Bool := match o.op with
  | .store _ (.tmp t) _ => ms.any (Nat.beq t)
  | _ => false
end Go.Proofs.Yteohckfbphdngaa
