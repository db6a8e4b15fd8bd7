/-
  The engine, part 23: variables that are made in any order.
-/
import Derived.Test.YteohckfbphdngaaE22
namespace Go.Proofs.Yteohckfbphdngaa
open Go.RowKit
section
variable {P : Program} {G : Cls} {ro : Option Nat} {md : Region.Mode} {ops : Array Oper} {N : Nat} {ds : List Deferred} {E : Oper → Bool} {Q : Exit → Act → World → Prop}
def lstd (σ : List Nat) (listed : Array Bool) : Array Bool := σ.foldl (fun l k => l.setIfInBounds k true) listed
def okPre (md : Region.Mode) (ops : Array Oper) (E : Oper → Bool) : List Nat → Array Bool → Bool
  | [], _ => true
  | k :: σ, listed =>
    match ops[k]? with
    | none => false
    | some o =>
      (Region.ready md ops listed).contains k &&
      (bif E o then decide (Region.ready md ops listed = [k])
       else Region.free md ops listed k && (!isRead o || (List.range ops.size).all fun j => listed.getD j true || !((ops[j]?).any E) || (ops[j]?).any (fun oj => E (growOf oj)) || reachB md ops j k)) &&
      okPre md ops E σ (listed.setIfInBounds k true)
/-- The first part of a walk, whatever follows. -/
theorem tree_pre {Z : Fr → Cls → Prop} {m : Nat} (hsel : Region.noSelect ops = true) (hdef : noDefer ops = true) :
    ∀ (σ : List Nat) (listed : Array Bool) (F : Fr) (C : Cls) (a : Act), Closed md ops listed → okPre md ops E σ listed = true → Has N ds F a → Good G C →
      (∀ F' C' a', Closed md ops (lstd σ listed) → Has N ds F' a' → Good G C' → Z F' C' → TreeC P G ro md ops Q E m (lstd σ listed) a' C') →
      Lx P G ro ops N ds E Z (σ.filterMap (ops[·]?)) F C → TreeC P G ro md ops Q E (σ.length + m) listed a C
  | [], listed, F, C, a, hc, _, ha, hS, hb, h => by rw [List.length_nil, Nat.zero_add]; exact hb F C a hc ha hS h
  | k :: σ, listed, F, C, a, hc, hok, ha, hS, hb, h => by
    unfold okPre at hok
    cases ho : ops[k]? with
    | none => simp [ho] at hok
    | some o =>
      simp only [ho, Bool.and_eq_true] at hok
      obtain ⟨⟨hr, hcase⟩, hok'⟩ := hok
      have hr' : k ∈ Region.ready md ops listed := by simpa using hr
      have hl : (k :: σ).filterMap (ops[·]?) = o :: σ.filterMap (ops[·]?) := by simp [ho]
      rw [hl] at h
      rw [List.length_cons, Nat.add_right_comm]
      unfold Lx at h
      cases hE : E o with
      | true =>
        rw [hE] at h hcase
        have hone : Region.ready md ops listed = [k] := by simpa using hcase
        refine ⟨fun h0 => (by rw [h0] at hone; cases hone), fun i hi oi hoi => ?_⟩
        rw [hone] at hi
        have : i = k := by simpa using hi
        subst this
        cases ho.symm.trans hoi
        rw [hE]
        intro w hw
        obtain ⟨hwant, hwp⟩ := h a w ha hw
        refine ⟨hwant, Oper.wpIn_mono (fun a' w' hk => ?_) hwp⟩
        obtain ⟨F', C', ha', hS', hw', hgr, hk⟩ := hk
        exact ⟨C', hS', hw', hgr, tree_pre hsel hdef σ _ F' C' a' (hc.set hr') hok' ha' hS' hb hk⟩
      | false =>
        rw [hE] at h hcase
        simp only [cond_false, Bool.and_eq_true, Bool.or_eq_true, Bool.not_eq_true'] at hcase
        obtain ⟨v, ⟨hd, hy⟩, hk⟩ := h
        refine tree_first ho hE (Region.noSelect_spec hsel) (noDefer_spec hdef) (σ.length + m) listed a C hc (Region.free_spec ho hcase.1) (fun hrd j oj hoj hEj hun => ?_) hr' (hy a ha)
          (tree_pre hsel hdef σ _ _ C _ (hc.set hr') hok' (ha.putF hd v) hS hb hk)
        rcases hcase.2 with h0 | h0
        · rw [hrd] at h0; cases h0
        · have := List.all_eq_true.1 h0 j (List.mem_range.2 (Array.getElem?_eq_some_iff.1 hoj).1)
          simp [hun, hoj, hEj] at this
          rcases this with h1 | h1
          · exact .inl h1
          · exact .inr (reachB_spec h1)

/-- A variable that the region makes: its operation, its slot (and name), its type, its cells. -/
structure AL where
  (k d : Nat) (t : TypeId) (c : List Value)
def LS (S : List AL) (adr : Nat → Nat) (L : Hl) : Hl := S.map (fun x => (x.d, adr x.d, x.c, x.t)) ++ L
def FS (S : List AL) (adr : Nat → Nat) (F : Fr) : Fr := S.map (fun x => (x.d, .pointer (some ⟨adr x.d, 0, none⟩))) ++ F
theorem beq_ne {n m : Nat} (h : n ≠ m) : Nat.beq n m = false := by
  cases hb : Nat.beq n m with
  | false => rfl
  | true => exact absurd (Nat.eq_of_beq_eq_true hb) h
theorem lkB_LS_in {adr : Nat → Nat} {L : Hl} : ∀ {S : List AL} (_ : (S.map (·.d)).Nodup) {x : AL} (_ : x ∈ S), lkB (LS S adr L) x.d = some (adr x.d, x.c, x.t)
  | y :: S, hn, x, hx => by
    rw [List.map_cons, List.nodup_cons] at hn
    show (bif Nat.beq y.d x.d then some (adr y.d, y.c, y.t) else lkB (LS S adr L) x.d) = _
    rcases List.mem_cons.1 hx with rfl | hx
    · rw [Nat.beq_refl]; rfl
    · rw [beq_ne (fun e => hn.1 (by rw [e]; exact List.mem_map.2 ⟨x, hx, rfl⟩))]
      exact lkB_LS_in hn.2 hx
theorem lkB_LS_out {adr : Nat → Nat} {L : Hl} {n : Nat} : ∀ {S : List AL} (_ : ∀ x ∈ S, x.d ≠ n), lkB (LS S adr L) n = lkB L n
  | [], _ => rfl
  | y :: S, h => by
    show (bif Nat.beq y.d n then some (adr y.d, y.c, y.t) else lkB (LS S adr L) n) = _
    rw [beq_ne (h y (.head _))]
    exact lkB_LS_out (fun x hx => h x (.tail _ hx))
theorem lk_FS {adr : Nat → Nat} {F : Fr} {n : Nat} {v : Value} : ∀ {S : List AL}, lk (FS S adr F) n = some v → (∃ x ∈ S, x.d = n ∧ v = .pointer (some ⟨adr x.d, 0, none⟩)) ∨ lk F n = some v
  | [], h => .inr h
  | y :: S, h => by
    have h : (bif Nat.beq y.d n then some (.pointer (some ⟨adr y.d, 0, none⟩)) else lk (FS S adr F) n) = some v := h
    cases hb : Nat.beq y.d n with
    | true => rw [hb] at h; exact .inl ⟨y, .head _, Nat.eq_of_beq_eq_true hb, (Option.some.inj h).symm⟩
    | false =>
      rw [hb] at h
      rcases lk_FS h with ⟨x, hx, h1⟩ | h1
      · exact .inl ⟨x, .tail _ hx, h1⟩
      · exact .inr h1
theorem hp_same {B : Bs} {L L' : Hl} (hr : Rides B.J) (h : ∀ n, lkB L n = lkB L' n) : Hp B L = Hp B L' := by
  funext w
  exact propext ⟨fun hw => hw.less hr fun n x hx => by rw [h]; exact hx, fun hw => hw.less hr fun n x hx => by rw [← h]; exact hx⟩
theorem Has.free {F : Fr} {a : Act} (h : Has N ds F a) {d : Nat} (hd : lk F d = none) (v : Value) : Has N ds F (a.put (some d) v) :=
  ⟨by simp [Act.put, h.size], by simp [Act.put, h.defers], fun t u hu => by
    have hne : d ≠ t := fun e => by subst e; rw [hd] at hu; cases hu
    simp only [Act.put, Array.getElem?_setIfInBounds_ne hne]
    exact h.get t u hu⟩
def splitsOf : List Nat → List (Nat × List Nat)
  | [] => []
  | k :: r => (k, r) :: (splitsOf r).map fun p => (p.1, k :: p.2)
theorem splits_mem (x : Nat) (R2 : List Nat) : ∀ R1 : List Nat, (x, R1 ++ R2) ∈ splitsOf (R1 ++ x :: R2)
  | [] => .head _
  | _ :: R1 => .tail _ (List.mem_map.2 ⟨_, splits_mem x R2 R1, rfl⟩)
def grpOk (md : Region.Mode) (ops : Array Oper) (listed2 : Array Bool) : Nat → List Nat → Array Bool → Bool
  | _, [], listed => decide (listed = listed2)
  | 0, _ :: _, _ => false
  | f + 1, R, listed => decide (Region.ready md ops listed = R) && (splitsOf R).all fun p => grpOk md ops listed2 f p.2 (listed.setIfInBounds p.1 true)
def isAlloc (P : Program) (ro : Option Nat) (ops : Array Oper) (E : Oper → Bool) (N : Nat) (x : AL) : Prop :=
  ∃ o, ops[x.k]? = some o ∧ o.dst = some x.d ∧ o.guard = none ∧ E o = true ∧ x.d < N ∧
    ∀ (a : Act) (w : World), (o.semAt ro a.eval).run P w = .ok (.value (.pointer (some ⟨w.heap.size, 0, none⟩))) (w.alloc (.cells x.c.toArray x.t))
/-- Variables made in any order. -/
theorem tree_grp {B : Bs} {L : Hl} {As : List AL} {F1 : Fr} {listed2 : Array Bool} {m : Nat} (hB : BOk G B) (hdist : (As.map (·.d)).Nodup) (hF : ∀ x ∈ As, lk F1 x.d = none) (hL : ∀ x ∈ As, lkB L x.d = none) (hop : ∀ x ∈ As, isAlloc P ro ops E N x)
    (hend : ∀ adr a, Has N ds (FS As adr F1) a → TreeC P G ro md ops Q E m listed2 a (Hp B (LS As adr L))) :
    ∀ (n : Nat) (R S : List AL) (adr : Nat → Nat) (listed : Array Bool) (a : Act), R.length = n → grpOk md ops listed2 R.length (R.map (·.k)) listed = true → (∀ x, x ∈ As ↔ x ∈ R ∨ x ∈ S) → ((R ++ S).map (·.d)).Nodup →
      Has N ds F1 a → (∀ x ∈ S, a.tmps[x.d]? = some (.pointer (some ⟨adr x.d, 0, none⟩))) → TreeC P G ro md ops Q E (R.length + m) listed a (Hp B (LS S adr L))
  | 0, R, S, adr, listed, a, hn, hok, hmem, hnd, ha, hs => by
    obtain rfl := List.length_eq_zero_iff.1 hn
    have hl : listed = listed2 := by simpa [grpOk] using hok
    subst hl
    have hmem' : ∀ x, x ∈ As ↔ x ∈ S := fun x => by rw [hmem]; simp
    have hSn : (S.map (·.d)).Nodup := hnd
    have e : Hp B (LS S adr L) = Hp B (LS As adr L) := hp_same hB.r fun n => by
      by_cases hx : ∃ x ∈ S, x.d = n
      · obtain ⟨x, hx, rfl⟩ := hx
        rw [lkB_LS_in hSn hx, lkB_LS_in hdist ((hmem' x).2 hx)]
      · have h1 : ∀ x ∈ S, x.d ≠ n := fun x h e => hx ⟨x, h, e⟩
        rw [lkB_LS_out h1, lkB_LS_out (fun x h => h1 x ((hmem' x).1 h))]
    rw [e, List.length_nil, Nat.zero_add]
    refine hend adr a ⟨ha.size, ha.defers, fun t v hv => ?_⟩
    rcases lk_FS hv with ⟨x, hx, rfl, rfl⟩ | hv
    · exact hs x ((hmem' x).1 hx)
    · exact ha.get t v hv
  | n + 1, R, S, adr, listed, a, hn, hok, hmem, hnd, ha, hs => by
    rw [hn] at hok ⊢
    rw [Nat.add_right_comm]
    cases hR : R with
    | nil => rw [hR] at hn; cases hn
    | cons r0 Rt =>
      have hok' : (decide (Region.ready md ops listed = R.map (·.k)) && (splitsOf (R.map (·.k))).all fun p => grpOk md ops listed2 n p.2 (listed.setIfInBounds p.1 true)) = true := by
        rw [hR] at hok ⊢; exact hok
      simp only [Bool.and_eq_true, decide_eq_true_eq] at hok'
      obtain ⟨hrdy, hall⟩ := hok'
      refine ⟨fun h0 => (by rw [h0, hR] at hrdy; cases hrdy), fun i hi oi hoi => ?_⟩
      rw [hrdy] at hi
      obtain ⟨x, hx, rfl⟩ := List.mem_map.1 hi
      obtain ⟨R1, R2, rfl⟩ := List.append_of_mem hx
      have hxA : x ∈ As := (hmem x).2 (.inl hx)
      obtain ⟨o, h1, h2, h3, h4, h5, h6⟩ := hop x hxA
      cases h1.symm.trans hoi
      rw [h4]
      intro w hw
      refine ⟨by unfold Region.wanted; rw [h3], fun f _ => fence_fn ro f, ?_⟩
      rw [show (FW ro).round = ro from rfl, h6 a w]
      have hxS : ∀ y ∈ S, y.d ≠ x.d := fun y hy e => by
        have hp : ((x :: (R1 ++ R2) ++ S).map (·.d)).Nodup := by
          refine (List.Perm.nodup_iff ?_).1 hnd
          exact (List.Perm.append_right S List.perm_middle).map _
        rw [List.cons_append, List.map_cons, List.nodup_cons] at hp
        exact hp.1 (by rw [← e]; exact List.mem_map.2 ⟨y, List.mem_append.2 (.inr hy), rfl⟩)
      obtain ⟨adr', hadr⟩ : ∃ adr' : Nat → Nat, adr' = fun e => if e = x.d then w.heap.size else adr e := ⟨_, rfl⟩
      have ax : adr' x.d = w.heap.size := by rw [hadr]; simp
      have aS : ∀ y ∈ S, adr' y.d = adr y.d := fun y hy => by rw [hadr]; simp [hxS y hy]
      have eL : LS S adr' L = LS S adr L := by
        unfold LS
        congr 1
        exact List.map_congr_left fun y hy => by rw [aS y hy]
      have eC : LS (x :: S) adr' L = (x.d, w.heap.size, x.c, x.t) :: LS S adr L := by
        rw [← eL, ← ax]; rfl
      have hfr : lkB (LS S adr L) x.d = none := by rw [lkB_LS_out hxS]; exact hL x hxA
      refine ⟨Hp B (LS (x :: S) adr' L), good_hp hB, by rw [eC]; exact hw.alloc hB.r x.d x.c x.t, fun _ w2 h2 => ?_, ?_⟩
      · rw [eC] at h2
        exact hp_fresh hB.r hfr w2 h2
      · rw [h2]
        have hlen : (R1 ++ R2).length = n := by
          have := hn
          simp only [List.length_append, List.length_cons] at this ⊢
          omega
        have hg := List.all_eq_true.1 hall _ (by rw [List.map_append, List.map_cons]; exact splits_mem x.k (R2.map (·.k)) (R1.map (·.k)))
        rw [← hlen]
        refine tree_grp hB hdist hF hL hop hend n (R1 ++ R2) (x :: S) adr' _ _ hlen (by rw [hlen, List.map_append]; exact hg) (fun y => ?_) ?_ (ha.free (hF x hxA) _) (fun y hy => ?_)
        · rw [hmem]
          simp only [List.mem_append, List.mem_cons]
          constructor
          · rintro ((h | h | h) | h)
            · exact .inl (.inl h)
            · exact .inr (.inl h)
            · exact .inl (.inr h)
            · exact .inr (.inr h)
          · rintro ((h | h) | h | h)
            · exact .inl (.inl h)
            · exact .inl (.inr (.inr h))
            · exact .inl (.inr (.inl h))
            · exact .inr h
        · refine (List.Perm.nodup_iff ?_).1 hnd
          refine List.Perm.map _ ?_
          exact (List.Perm.append_right S List.perm_middle).trans List.perm_middle.symm
        · rcases List.mem_cons.1 hy with rfl | hy
          · rw [ax]
            simp [Act.put, ha.size, h5]
          · rw [aS y hy]
            simp only [Act.put, Array.getElem?_setIfInBounds_ne (Ne.symm (hxS y hy))]
            exact hs y hy
def closedB (md : Region.Mode) (ops : Array Oper) (listed : Array Bool) : Bool :=
  (List.range ops.size).all fun j => !listed.getD j false || match ops[j]? with
    | some oj => oj.after.all fun e => !Region.binds md e || listed.getD e.on false
    | none => true
theorem closedB_spec {listed : Array Bool} (h : closedB md ops listed = true) : Closed md ops listed := fun j i hw hl => by
  obtain ⟨oj, hoj, e, he, hb, rfl⟩ := waits_spec hw
  have := List.all_eq_true.1 h j (List.mem_range.2 (Array.getElem?_eq_some_iff.1 hoj).1)
  rw [hoj] at this
  simp only [hl, Bool.not_true, Bool.false_or] at this
  have := Array.all_eq_true'.1 this e he
  rw [hb] at this
  simpa using this
theorem isAlloc_mk {k d : Nat} {t ty : TypeId} {pos : String} {af : Array Edge} {c : List Value} {fs : List Nat} (ho : ops[k]? = some ⟨some d, .alloc t, ty, pos, af, none⟩) (hz : ∀ w, (zeroValue t).run P w = .ok (.agg c.toArray) w) (hd : Nat.blt d N = true) : isAlloc P ro ops (EE fs) N ⟨k, d, t, c⟩ :=
  ⟨_, ho, rfl, rfl, rfl, by simpa using hd, fun a w => by
    rw [Oper.semAt_eq _ _ _ (fun _ h => by cases h)]
    simp only [execOp, Instr.alloc, Sem.run_bind, hz, Result.andThen_ok]
    rfl⟩
end
section
variable {P : Program} {G : Cls} {ro : Option Nat} {N : Nat} {ds : List Deferred} {F : Fr} {C : Cls} {K : KK}
/-- A region that draws its order and makes variables in any order: ahead of them what leaves memory alone, then they, then the rest. -/
theorem x_drawA {id : Nat} {l : List Oper} {E : Oper → Bool} (σ1 : List Nat) (As : List AL) (σ2 : List Nat) (hm : P.follows .mixedOrders = true) (hlen : σ1.length + (As.length + σ2.length) = l.length) (hsel : Region.noSelect l.toArray = true) (hdef : noDefer l.toArray = true)
    (hok1 : okPre .any l.toArray E σ1 (Array.replicate l.toArray.size false) = true)
    (hg : grpOk .any l.toArray (lstd (As.map (·.k)) (lstd σ1 (Array.replicate l.toArray.size false))) As.length (As.map (·.k)) (lstd σ1 (Array.replicate l.toArray.size false)) = true)
    (hcl : closedB .any l.toArray (lstd (As.map (·.k)) (lstd σ1 (Array.replicate l.toArray.size false))) = true)
    (hok2 : okFrom .any l.toArray E σ2 (lstd (As.map (·.k)) (lstd σ1 (Array.replicate l.toArray.size false))) = true)
    (hdist : (As.map (·.d)).Nodup) (hop : ∀ x ∈ As, isAlloc P ro l.toArray E N x)
    (h : Lx P G ro l.toArray N ds E (fun F1 C1 => ∃ B L, C1 = Hp B L ∧ BOk G B ∧ (∀ x ∈ As, lk F1 x.d = none) ∧ (∀ x ∈ As, lkB L x.d = none) ∧ ∀ adr, Lx P G ro l.toArray N ds E (K .normal ds) (pickL σ2 l) (FS As adr F1) (Hp B (LS As adr L))) (pickL σ1 l) F C) :
    X P G ro N ds (.region id l.toArray true) F C K := fun hS a w ha hw => by
  refine wpIn_region_any hm ?_
  have hc : Closed .any l.toArray (Array.replicate l.toArray.size false) := fun j i _ hj => by
    rcases Nat.lt_or_ge j l.toArray.size with h' | h'
    · simp at h'; simp [h'] at hj
    · simp at h'; simp [h'] at hj
  have key : TreeC P G ro .any l.toArray (fun e a' w' => ∃ ds' F' C', Good G C' ∧ Has N ds' F' a' ∧ C' w' ∧ K e ds' F' C') E (σ1.length + (As.length + σ2.length)) (Array.replicate l.toArray.size false) a C := by
    refine tree_pre hsel hdef σ1 _ F C a hc hok1 ha hS (fun F1 C1 a1 _ ha1 _ hZ => ?_) (by rw [pickL_eq]; exact h)
    obtain ⟨B, L, rfl, hB, hF, hL, hZ⟩ := hZ
    refine tree_grp hB hdist hF hL hop (fun adr a2 ha2 => ?_) As.length As [] (fun _ => 0) _ a1 rfl hg (fun x => by simp) (by simpa using hdist) ha1 (fun _ h => by cases h)
    have := tree_of_Lx (P := P) (G := G) (ro := ro) (md := .any) (N := N) (ds := ds) (E := E) (Q := fun e a' w' => ∃ ds' F' C', Good G C' ∧ Has N ds' F' a' ∧ C' w' ∧ K e ds' F' C') (Z := K .normal ds) (fun F' C' hS' hk a' w' ha' hw' => ⟨ds, F', C', hS', ha', hw', hk⟩) hsel hdef σ2 _ _ _ a2 (closedB_spec hcl) hok2 ha2 (good_hp hB) (by rw [pickL_eq]; exact hZ adr)
    exact this
  rw [hlen] at key
  exact wpAnyIn_of_tree _ _ _ C _ hS (hS.1 w _ hw ((Below.refl _ w).drew)) key
theorem xs_drawA {id : Nat} {l : List Oper} {E : Oper → Bool} {y : Code} (σ1 : List Nat) (As : List AL) (σ2 : List Nat) (hm : P.follows .mixedOrders = true) (hlen : σ1.length + (As.length + σ2.length) = l.length) (hsel : Region.noSelect l.toArray = true) (hdef : noDefer l.toArray = true)
    (hok1 : okPre .any l.toArray E σ1 (Array.replicate l.toArray.size false) = true)
    (hg : grpOk .any l.toArray (lstd (As.map (·.k)) (lstd σ1 (Array.replicate l.toArray.size false))) As.length (As.map (·.k)) (lstd σ1 (Array.replicate l.toArray.size false)) = true)
    (hcl : closedB .any l.toArray (lstd (As.map (·.k)) (lstd σ1 (Array.replicate l.toArray.size false))) = true)
    (hok2 : okFrom .any l.toArray E σ2 (lstd (As.map (·.k)) (lstd σ1 (Array.replicate l.toArray.size false))) = true)
    (hdist : (As.map (·.d)).Nodup) (hop : ∀ x ∈ As, isAlloc P ro l.toArray E N x)
    (h : Lx P G ro l.toArray N ds E (fun F1 C1 => ∃ B L, C1 = Hp B L ∧ BOk G B ∧ (∀ x ∈ As, lk F1 x.d = none) ∧ (∀ x ∈ As, lkB L x.d = none) ∧ ∀ adr, Lx P G ro l.toArray N ds E (fun F' C' => X P G ro N ds y F' C' K) (pickL σ2 l) (FS As adr F1) (Hp B (LS As adr L))) (pickL σ1 l) F C) :
    X P G ro N ds (.seq (.region id l.toArray true) y) F C K := x_seq (x_drawA σ1 As σ2 hm hlen hsel hdef hok1 hg hcl hok2 hdist hop h)
end
end Go.Proofs.Yteohckfbphdngaa
