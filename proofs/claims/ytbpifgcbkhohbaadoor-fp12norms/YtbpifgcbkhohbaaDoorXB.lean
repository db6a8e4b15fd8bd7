/-
  The reference's elements of six parts.
  The reference's elements of six parts: products, inverses.
  The reference's elements of six parts: inverses; elements of fp6 as values.
  Elements of fp6 as values; what the laws of layer 6 share.
  The walks of package fp6.
-/
import Derived.Test.YtbpifgcbkhohbaaDoorXA
import Derived.Test.YtbpifgcbkhohbaaDoorX5
import Derived.Test.YtbpifgcbkhohbaaDoorX3
namespace Go.Proofs.YtbpifgcbkhohbaaDoor
open Go.RowKit
set_option maxRecDepth 100000
set_option maxHeartbeats 1000000
attribute [local simp] fe_len nm_len AS_len SS_len MONT_len RM_len FRs_len BYs_len by48_len PLl TWOl ONEl N1l IVPl HFPl RTPl FL_len SP_len fe2_len SP2_len FM_len

theorem ent25 : Enters Tryd.prog 25 := fun _ _ => by kernel_rfl
def FF (f : Nat → W2) (i : Nat) : List (BitVec 64) := fe2 (f i)
/-- Six parts as a value. -/
abbrev TV (f : Nat → W2) : Value := .agg ((FM (FF f) 6).map U64).toArray
theorem FF_load (f : Nat → W2) (v : W2) (n k o : Nat) (hk : k < n) (ho : o = 12 * k) (hv : f k = v) : ∀ j u, ((fe v.1 ++ fe v.2).map U64)[j]? = some u → ((FM (FF f) n).map U64)[o + j]? = some u := by
  subst hv
  exact FM_load (FF f) n k hk (fe2_len _) o ho
theorem FF_step (f g : Nat → W2) (v : W2) (n k o : Nat) (hk : k < n) (ho : o = 12 * k) (hg : ∀ i, i < n → g i = if i = k then v else f i) : lay o ((fe v.1 ++ fe v.2).map U64) ((FM (FF f) n).map U64) = (FM (FF g) n).map U64 := by
  have h := FM_lay (FF f) n k (fe2 v) hk (fe2_len _) o ho
  refine h.trans (congrArg (List.map U64) (FM_congr fun i hi => ?_))
  show (if i = k then fe2 v else fe2 (f i)) = fe2 (g i)
  rw [hg i hi]
  split <;> rfl
theorem FF_congr {f g : Nat → W2} {n : Nat} (h : ∀ i, i < n → f i = g i) : FM (FF f) n = FM (FF g) n := FM_congr fun i hi => congrArg fe2 (h i hi)
theorem FF_len (f : Nat → W2) (n : Nat) : (FM (FF f) n).length = 12 * n := FM_len _ _
theorem upd_lt (A B : Nat → W2) (i j : Nat) : (if j < i + 1 then A j else B j) = if j = i then A i else (if j < i then A j else B j) := by
  by_cases h : j = i
  · subst h; rw [if_pos (Nat.lt_succ_self _), if_pos rfl]
  · rw [if_neg h]
    by_cases h' : j < i
    · rw [if_pos h', if_pos (Nat.lt_succ_of_lt h')]
    · rw [if_neg h', if_neg (fun e => h' (Nat.lt_of_le_of_ne (Nat.le_of_lt_succ e) h))]
theorem not_lt_self (A B : Nat → W2) (i : Nat) : (if i < i then A i else B i) = B i := if_neg (Nat.lt_irrefl _)
theorem zero_row (n : Nat) : FM (FF fun _ => ze2) n = FM (fun _ => List.replicate 12 0#64) n := FM_congr fun i _ => by
  show fe2 ze2 = _
  rw [show fe2 ze2 = fe 0 ++ fe 0 from rfl, fe_0]; rfl
theorem zv46 (w : World) : (zeroValue 46).run Tryd.prog w = .ok (.agg ((FM (FF fun _ => ze2) 6).map U64).toArray) w := by
  rw [zero_row]; exact (Tryd.zeroValue46 w).trans (by rfl)
theorem rT {f g : Nat → W2} (h : ∀ i, i < 6 → f i = g i) : Ending.returned (TV f) = .returned (TV g) := congrArg (fun l => Ending.returned (.agg (List.map U64 l).toArray)) (FF_congr h)
theorem eqf46 : EqF Tryd.prog 46 (6 * 12) 5 := eqf_arrF (by decide) Tryd.underlying46 Tryd.isAgg44 Tryd.sizeOf44 eqf44
theorem eqg46 (op : BinOp) (x y : Operand) (xs ys : Array Value) (w : World) : (eqGuard op 46 x y (.agg xs) (.agg ys)).run Tryd.prog w = .ok () w := run_eqGuard_agg w op 46 x y xs ys (by kernel_rfl)
theorem eqv46 (xs ys : List (BitVec 64)) (h : xs.length = 72) (h' : ys.length = 72) (w : World) : (binOp .eql 46 (.agg (xs.map U64).toArray) (.agg (ys.map U64).toArray)).run Tryd.prog w = .ok (.bool (decide (xs = ys))) w := bin_eqf eqf46 (by decide) xs ys h h' w
theorem U64_inj {a b : BitVec 64} (h : U64 a = U64 b) : a = b := by
  unfold U64 at h
  have e := (Value.int.inj h).2
  exact BitVec.eq_of_toNat_eq (by omega)
theorem rows_eq {A B : List (BitVec 64)} {Z : List Value} {o : Nat} (hA : A.length = 12) (hB : B.length = 12) (h1 : ∀ (j : Nat) u, (A.map U64)[j]? = some u → Z[o + j]? = some u) (h2 : ∀ (j : Nat) u, (B.map U64)[j]? = some u → Z[o + j]? = some u) : A = B := by
  apply List.ext_getElem?
  intro j
  rcases Nat.lt_or_ge j 12 with hj | hj
  · have e1 := h1 j (U64 A[j]) (by rw [List.getElem?_map, List.getElem?_eq_getElem (by omega)]; rfl)
    have e2 := h2 j (U64 B[j]) (by rw [List.getElem?_map, List.getElem?_eq_getElem (by omega)]; rfl)
    rw [List.getElem?_eq_getElem (by omega), List.getElem?_eq_getElem (by omega), U64_inj (Option.some.inj (e1.symm.trans e2))]
  · rw [List.getElem?_eq_none (by omega), List.getElem?_eq_none (by omega)]
theorem FF_iff {f g : Nat → W2} : FM (FF f) 6 = FM (FF g) 6 ↔ tq f = tq g := by
  constructor
  · intro h
    have key : ∀ k, k < 6 → f k = g k := fun k hk => by
      have h1 := FF_load f (f k) 6 k (12 * k) hk rfl rfl
      have h2 := FF_load g (g k) 6 k (12 * k) hk rfl rfl
      rw [h] at h1
      exact fe2_iff.1 (rows_eq (by simp) (by simp) h1 h2)
    exact Prod.ext (Prod.ext (key 0 (by decide)) (Prod.ext (key 2 (by decide)) (key 4 (by decide)))) (Prod.ext (key 1 (by decide)) (Prod.ext (key 3 (by decide)) (key 5 (by decide))))
  · intro h
    refine FF_congr fun i hi => ?_
    match i, hi with
    | 0, _ => exact congrArg (fun x => x.1.1) h
    | 1, _ => exact congrArg (fun x => x.2.1) h
    | 2, _ => exact congrArg (fun x => x.1.2.1) h
    | 3, _ => exact congrArg (fun x => x.2.2.1) h
    | 4, _ => exact congrArg (fun x => x.1.2.2) h
    | 5, _ => exact congrArg (fun x => x.2.2.2) h
theorem FF_dec (f g : Nat → W2) : decide (FM (FF f) 6 = FM (FF g) 6) = decide (tq f = tq g) := decide_eq_decide.2 FF_iff
attribute [local simp] FF_len
end Go.Proofs.YtbpifgcbkhohbaaDoor

namespace Go.Proofs.YtbpifgcbkhohbaaDoor
open Go.RowKit
set_option maxRecDepth 100000
set_option maxHeartbeats 1000000
attribute [local simp] fe_len nm_len AS_len SS_len MONT_len RM_len FRs_len BYs_len by48_len PLl TWOl ONEl N1l IVPl HFPl RTPl FL_len SP_len fe2_len SP2_len FM_len FF_len

end Go.Proofs.YtbpifgcbkhohbaaDoor

namespace Go.Proofs.YtbpifgcbkhohbaaDoor
open Go.RowKit
set_option maxRecDepth 100000
set_option maxHeartbeats 1000000
attribute [local simp] fe_len nm_len AS_len SS_len MONT_len RM_len FRs_len BYs_len by48_len PLl TWOl ONEl N1l IVPl HFPl RTPl FL_len SP_len fe2_len SP2_len FM_len FF_len

theorem TC_upd (f : Nat → W2) (n j : Nat) : (if j < 2 * (n + 1) + 1 then tcj f j else f j) = if j = 2 * n + 1 then ng2 (f (2 * n + 1)) else (if j < 2 * n + 1 then tcj f j else f j) := by
  by_cases h : j = 2 * n + 1
  · rw [if_pos h, if_pos (by omega), tcj, if_pos (by omega), h]
  · rw [if_neg h]
    by_cases h' : j < 2 * n + 1
    · rw [if_pos h', if_pos (by omega)]
    · rw [if_neg h']
      by_cases h2 : j < 2 * (n + 1) + 1
      · rw [if_pos h2, tcj, if_neg (by omega)]
      · rw [if_neg h2]
theorem TC_0 (f : Nat → W2) (j : Nat) : f j = if j < 2 * 0 + 1 then tcj f j else f j := by
  by_cases h : j < 2 * 0 + 1
  · rw [if_pos h, tcj, if_neg (by omega)]
  · rw [if_neg h]
/-- Three parts, at 0, 2 and 4. -/
def ev3 (x y z : W2) (i : Nat) : W2 := if i = 4 then z else if i = 2 then y else if i = 0 then x else ze2
theorem setF_ev3 (x y z : W2) (n : Nat) : FM (setF [(0, fe x.1 ++ fe x.2), (2, fe y.1 ++ fe y.2), (4, fe z.1 ++ fe z.2)] (FF fun _ => ze2)) n = FM (FF (ev3 x y z)) n := FM_congr fun i _ => by
  show (if i = 4 then fe2 z else if i = 2 then fe2 y else if i = 0 then fe2 x else fe2 ze2) = fe2 (ev3 x y z i)
  unfold ev3
  split
  · rfl
  · split
    · rfl
    · split <;> rfl
def ev1 (k : Nat) (x : W2) (i : Nat) : W2 := if i = k then x else ze2
theorem setF_ev1 (k : Nat) (x : W2) (n : Nat) : FM (setF [(k, fe x.1 ++ fe x.2)] (FF fun _ => ze2)) n = FM (FF (ev1 k x)) n := FM_congr fun i _ => by
  show (if i = k then fe2 x else fe2 ze2) = fe2 (ev1 k x i)
  unfold ev1
  split <;> rfl
section
variable {G : Cls} {ro : Option Nat} {ops : Array Oper} {N : Nat} {ds : List Deferred} {fs : List Nat} {Z : Fr → Cls → Prop} {F : Fr} {C : Cls} {rest : List Oper} {d : Nat} {ty : TypeId} {pos : String} {af : Array Edge} {gd : Option (Nat × Bool)}
theorem lx_ev3 (x y z : W2) {p q r : Operand} (hx : evF F p = some (EV2 x)) (hy : evF F q = some (EV2 y)) (hz : evF F r = some (EV2 z)) (hw : wantF ops F ⟨some d, .build 46 #[(0, p), (2, q), (4, r)], ty, pos, af, gd⟩ = some true) (hd : Nat.blt d N = true)
    (h : Lx Tryd.prog G ro ops N ds (EE fs) Z rest ((d, TV (ev3 x y z)) :: F) C) : Lx Tryd.prog G ro ops N ds (EE fs) Z (⟨some d, .build 46 #[(0, p), (2, q), (4, r)], ty, pos, af, gd⟩ :: rest) F C :=
  lx_row3 0 2 4 hx hy hz (by simp) (by simp) (by simp) (by decide) (by decide) (by decide) Tryd.underlying46 Tryd.sizeOf44 zv46 hw hd (by rw [setF_ev3]; exact h)
theorem lx_ev1 (k : Nat) (x : W2) {p : Operand} (hk : k < 6) (hx : evF F p = some (EV2 x)) (hw : wantF ops F ⟨some d, .build 46 #[(k, p)], ty, pos, af, gd⟩ = some true) (hd : Nat.blt d N = true)
    (h : Lx Tryd.prog G ro ops N ds (EE fs) Z rest ((d, TV (ev1 k x)) :: F) C) : Lx Tryd.prog G ro ops N ds (EE fs) Z (⟨some d, .build 46 #[(k, p)], ty, pos, af, gd⟩ :: rest) F C :=
  lx_row1 k hx (by simp) hk Tryd.underlying46 Tryd.sizeOf44 zv46 hw hd (by rw [setF_ev1]; exact h)
end
theorem tq_ev3 (x y z : W2) : tq (ev3 x y z) = ((x, y, z), K6.zero) := rfl
theorem tq_ev1 (x : W2) : tq (ev1 0 x) = em x := rfl
theorem tq_ev2 (x : W2) : tq (ev1 2 x) = ((ze2, x, ze2), K6.zero) := rfl
def TIf (f : Nat → W2) : Nat → W2 :=
  TMf (tcj f) (ev3 (iv6 (TMf f (tcj f) 0, TMf f (tcj f) 2, TMf f (tcj f) 4)).1 (iv6 (TMf f (tcj f) 0, TMf f (tcj f) 2, TMf f (tcj f) 4)).2.1 (iv6 (TMf f (tcj f) 0, TMf f (tcj f) 2, TMf f (tcj f) 4)).2.2)
theorem tq_inv (f : Nat → W2) : tq (TIf f) = iv12 (tq f) := by
  have e := tq_mul f (tcj f)
  have e1 : K12.mul (tq f) (tq (tcj f)) = (qnm K6 VV (tq f), K6.zero) := by rw [tq_cj]; exact qnm_cj K6 VV (tq f)
  rw [e1] at e
  have e2 : (TMf f (tcj f) 0, TMf f (tcj f) 2, TMf f (tcj f) 4) = qnm K6 VV (tq f) := congrArg Prod.fst e
  rw [TIf, tq_mul, tq_ev3, e2, tq_cj]
  rfl
end Go.Proofs.YtbpifgcbkhohbaaDoor

namespace Go.Proofs.YtbpifgcbkhohbaaDoor
open Go.RowKit
set_option maxRecDepth 100000
set_option maxHeartbeats 1000000
attribute [local simp] fe_len nm_len AS_len SS_len MONT_len RM_len FRs_len BYs_len by48_len PLl TWOl ONEl N1l IVPl HFPl RTPl FL_len SP_len fe2_len SP2_len FM_len FF_len

theorem ent29 : Enters Tryd.prog 29 := fun _ _ => by kernel_rfl
theorem ent50 : Enters Tryd.prog 50 := fun _ _ => by kernel_rfl
theorem ent34 : Enters Tryd.prog 34 := fun _ _ => by kernel_rfl
theorem ent31 : Enters Tryd.prog 31 := fun _ _ => by kernel_rfl
theorem ent30 : Enters Tryd.prog 30 := fun _ _ => by kernel_rfl
theorem ent22 : Enters Tryd.prog 22 := fun _ _ => by kernel_rfl
theorem ent21 : Enters Tryd.prog 21 := fun _ _ => by kernel_rfl
theorem ent28 : Enters Tryd.prog 28 := fun _ _ => by kernel_rfl
theorem ent51 : Enters Tryd.prog 51 := fun _ _ => by kernel_rfl
theorem ent27 : Enters Tryd.prog 27 := fun _ _ => by kernel_rfl
theorem ent33 : Enters Tryd.prog 33 := fun _ _ => by kernel_rfl
theorem ent38 : Enters Tryd.prog 38 := fun _ _ => by kernel_rfl
theorem ent65 : Enters Tryd.prog 65 := fun _ _ => by kernel_rfl
theorem ent32 : Enters Tryd.prog 32 := fun _ _ => by kernel_rfl
theorem ent48 : Enters Tryd.prog 48 := fun _ _ => by kernel_rfl
theorem ent26 : Enters Tryd.prog 26 := fun _ _ => by kernel_rfl
theorem ent16 : Enters Tryd.prog 16 := fun _ _ => by kernel_rfl
/-- An element of fp6 as a value. -/
abbrev EV6 (x : W6) : Value := .agg (((fe (x.1).1 ++ fe (x.1).2) ++ ((fe (x.2.1).1 ++ fe (x.2.1).2) ++ (fe (x.2.2).1 ++ fe (x.2.2).2))).map U64).toArray
theorem zv32 (w : World) : (zeroValue 32).run Tryd.prog w = .ok (.agg (((fe 0 ++ fe 0) ++ ((fe 0 ++ fe 0) ++ (fe 0 ++ fe 0))).map U64).toArray) w := by rw [fe_0]; exact (Tryd.zeroValue32 w).trans (by rfl)
theorem three32 : Three Tryd.prog 32 ⟨ "C0", 30, 0, false, "", "", 0⟩ ⟨ "C1", 30, 12, false, "", "", 96⟩ ⟨ "C2", 30, 24, false, "", "", 192⟩ 12 (fe 0 ++ fe 0) (fe 0 ++ fe 0) (fe 0 ++ fe 0) := ⟨Tryd.underlying32, rfl, rfl, rfl, Tryd.sizeOf30, Tryd.sizeOf30, Tryd.sizeOf30, zv32, by simp, by simp, by simp⟩
theorem e6 {a b c a' b' c' : W2} (h1 : a = a') (h2 : b = b') (h3 : c = c') : Ending.returned (.agg (((fe (a).1 ++ fe (a).2) ++ ((fe (b).1 ++ fe (b).2) ++ (fe (c).1 ++ fe (c).2))).map U64).toArray) = .returned (.agg (((fe (a').1 ++ fe (a').2) ++ ((fe (b').1 ++ fe (b').2) ++ (fe (c').1 ++ fe (c').2))).map U64).toArray) := by rw [h1, h2, h3]
theorem dec6_a {x y : W6} (h : x.1 = y.1) (h' : x.2.1 = y.2.1) : decide (x.2.2 = y.2.2) = decide (x = y) := decide_eq_decide.2 ⟨fun e => Prod.ext h (Prod.ext h' e), fun e => by rw [e]⟩
theorem dec6_b {x y : W6} (h' : ¬ x.2.1 = y.2.1) : false = decide (x = y) := (decide_eq_false fun e => h' (by rw [e])).symm
theorem dec6_c {x y : W6} (h : ¬ x.1 = y.1) : false = decide (x = y) := (decide_eq_false fun e => h (by rw [e])).symm
theorem num_cut (e : Option Addr) (cap : Nat) (bs : List (BitVec 8)) (l k len c' : Nat) (hk : len = k) (hl : l + k ≤ bs.length) (hc' : len ≤ c') (hcap : bs.length ≤ cap) (hlen : bs.length ≤ 1000) (w : World) (hw : Gt w) (hby : BytesAt w e bs) :
    Calls Tryd.prog 43 [.slice (if cap = l then e else e.map (·.add (l * 1))) len c'].toArray w (fun r w' => r = .returned (EV2 (NUM ((bs.drop l).take k))) ∧ Grow w w') := by
  subst hk
  have hL : ((bs.drop l).take len).length = len := by rw [List.length_take, List.length_drop]; omega
  have h := num_calls (if cap = l then e else e.map (·.add (l * 1))) c' ((bs.drop l).take len) (by omega) (by omega) w hw (hby.cut l len hcap)
  rw [hL] at h
  exact h
/-- The element of bytes. -/
def SIX (bs : List (BitVec 8)) : W6 := (NUM ((bs.drop 0).take (bs.length / 3)), NUM ((bs.drop (bs.length / 3)).take (2 * (bs.length / 3) - bs.length / 3)), NUM ((bs.drop (2 * (bs.length / 3))).take (bs.length - 2 * (bs.length / 3))))
theorem six_calls (e : Option Addr) (cap : Nat) (bs : List (BitVec 8)) (hlen : bs.length ≤ 1000) (hcap : bs.length ≤ cap) (w : World) (hw : Gt w) (hby : BytesAt w e bs) :
    Calls Tryd.prog 26 [.slice e bs.length cap].toArray w (fun r w' => r = .returned (EV6 (SIX bs)) ∧ Grow w w') := by
  have hGF : BOk Gt (pl w) := gt_low.plain hw
  refine calls_of_X (G := Gt) Tryd.func26 rfl rfl (Hp (pl w) []) (hp_refl (pl w) trivial rides_true) (good_hp hGF) ?_
  refine xs_plain (E := EE []) ?_
  refine lx_allocr 2 hGF zv32 rfl rfl ?_
  intro b2
  refine lx_nil ?_
  refine xs_plain (E := EE []) ?_
  refine lx_move rfl rfl rfl ?_
  refine lx_len rfl (fun _ => len_slice Tryd.underlying22 _ _ _ _) rfl rfl ?_
  refine lx_bin (v := I ((bs.length / 3 : Nat) : Int)) rfl rfl (fun _ => rfl) (fun _ => bin_quo_i _ _ _ (by decide) (show inI ((bs.length / 3 : Nat) : Int) by unfold inI; omega)) rfl rfl ?_
  refine lx_assign rfl rfl rfl ?_
  refine lx_nil ?_
  refine xs_drawn (E := EE []) mixed (by kernel_rfl) (by kernel_rfl) (by kernel_rfl) ?_
  refine lx_move rfl rfl rfl ?_
  refine lx_move rfl rfl rfl ?_
  refine lx_slsl (l := 0) (h' := bs.length / 3) rfl Tryd.underlying22 Tryd.sizeOf5 rfl rfl (by omega) rfl rfl ?_
  refine lx_callC rfl rfl ent43 (fun w' hC hG => num_cut e cap bs (0) (bs.length / 3) _ _ rfl (by omega) (by omega) hcap hlen w' hG (hby.grow (hp_below hC))) rfl rfl ?_
  refine lx_move rfl rfl rfl ?_
  refine lx_move rfl rfl rfl ?_
  refine lx_move rfl rfl rfl ?_
  refine lx_bin (v := I ((2 * (bs.length / 3) : Nat) : Int)) rfl rfl (fun _ => rfl) (fun _ => (bin_mul_i _ _ _ (by unfold inI; omega)).trans (by rw [show (2 : Int) * ((bs.length / 3 : Nat) : Int) = ((2 * (bs.length / 3) : Nat) : Int) by omega])) rfl rfl ?_
  refine lx_slsl (l := bs.length / 3) (h' := 2 * (bs.length / 3)) rfl Tryd.underlying22 Tryd.sizeOf5 rfl rfl (by omega) rfl rfl ?_
  refine lx_callC rfl rfl ent43 (fun w' hC hG => num_cut e cap bs (bs.length / 3) (2 * (bs.length / 3) - bs.length / 3) _ _ rfl (by omega) (by omega) hcap hlen w' hG (hby.grow (hp_below hC))) rfl rfl ?_
  refine lx_move rfl rfl rfl ?_
  refine lx_move rfl rfl rfl ?_
  refine lx_bin (v := I ((2 * (bs.length / 3) : Nat) : Int)) rfl rfl (fun _ => rfl) (fun _ => (bin_mul_i _ _ _ (by unfold inI; omega)).trans (by rw [show (2 : Int) * ((bs.length / 3 : Nat) : Int) = ((2 * (bs.length / 3) : Nat) : Int) by omega])) rfl rfl ?_
  refine lx_slsl (l := 2 * (bs.length / 3)) (h' := bs.length) rfl Tryd.underlying22 Tryd.sizeOf5 rfl rfl (by omega) rfl rfl ?_
  refine lx_callC rfl rfl ent43 (fun w' hC hG => num_cut e cap bs (2 * (bs.length / 3)) (bs.length - 2 * (bs.length / 3)) _ _ rfl (by omega) (by omega) hcap hlen w' hG (hby.grow (hp_below hC))) rfl rfl ?_
  refine lx_three012 three32 rfl rfl rfl (by simp) (by simp) (by simp) rfl rfl ?_
  refine lx_storea 2 hGF rfl rfl rfl Tryd.sizeOf32 (by simp) (by simp) (one_u64 _) rfl ?_
  refine lx_nil ?_
  refine x_ret ?_
  repeat (first | refine kseq_ret ?_ | refine kblk_ret ?_)
  exact kret_own 2 rfl rfl rfl Tryd.isAgg32 Tryd.sizeOf32 (by simp) (fun w hw => ⟨rfl, hp_below hw⟩)
end Go.Proofs.YtbpifgcbkhohbaaDoor

namespace Go.Proofs.YtbpifgcbkhohbaaDoor
open Go.RowKit
set_option maxRecDepth 100000
set_option maxHeartbeats 1000000
attribute [local simp] fe_len nm_len AS_len SS_len MONT_len RM_len FRs_len BYs_len by48_len PLl TWOl ONEl N1l IVPl HFPl RTPl FL_len SP_len fe2_len SP2_len FM_len FF_len

theorem ent57 : Enters Tryd.prog 57 := fun _ _ => by kernel_rfl
/-- The parts, counted. -/
def p3 (x : W6) : Nat → W2
  | 0 => x.1
  | 1 => x.2.1
  | _ => x.2.2
theorem zv72 (w : World) : (zeroValue 72).run Tryd.prog w = .ok (.agg ((FM (FF fun _ => ze2) 3).map U64).toArray) w := by
  rw [zero_row]; exact (Tryd.zeroValue72 w).trans (by rfl)
/-- Three parts as a value. -/
abbrev TV3 (f : Nat → W2) : Value := .agg ((FM (FF f) 3).map U64).toArray
theorem ff_len (f : Nat → W2) (i : Nat) : (FF f i).length = 12 := fe2_len _
attribute [local simp] ff_len
theorem p3_ext {x y : W6} (h : ∀ j, j < 3 → p3 x j = p3 y j) : x = y := Prod.ext (h 0 (by decide)) (Prod.ext (h 1 (by decide)) (h 2 (by decide)))
theorem lt_s {Q : Nat → Prop} {k : Nat} (h : ∀ j, j < k → Q j) (hk : Q k) : ∀ j, j < k + 1 → Q j := fun j hj => by
  rcases Nat.lt_or_ge j k with h1 | h1
  · exact h j h1
  · obtain rfl : j = k := by omega
    exact hk
theorem k6list (x : W6) : Pure Tryd.prog Gt 48 [EV6 x] (TV3 (p3 x)) := by
  intro w hw
  have hGF : BOk Gt (pl w) := gt_low.plain hw
  refine calls_of_X (G := Gt) Tryd.func48 rfl rfl (Hp (pl w) []) (hp_refl (pl w) trivial rides_true) (good_hp hGF) ?_
  refine xs_plain (E := EE []) ?_
  refine lx_boxr 1 hGF rfl rfl rfl ?_
  intro b1
  refine lx_allocr 2 hGF zv72 rfl rfl ?_
  intro b2
  refine lx_nil ?_
  refine xs_plain (E := EE []) ?_
  refine lx_fak 0 rfl Tryd.underlying32 rfl Tryd.sizeOf30 (by decide) rfl rfl rfl ?_
  refine lx_loado 1 _ rfl rfl Tryd.isAgg30 Tryd.sizeOf30 (by simp) ld_l rfl rfl ?_
  refine lx_fak 12 rfl Tryd.underlying32 rfl Tryd.sizeOf30 (by decide) rfl rfl rfl ?_
  refine lx_loado 1 _ rfl rfl Tryd.isAgg30 Tryd.sizeOf30 (by simp) (ld_m (by simp)) rfl rfl ?_
  refine lx_fak 24 rfl Tryd.underlying32 rfl Tryd.sizeOf30 (by decide) rfl rfl rfl ?_
  refine lx_loado 1 _ rfl rfl Tryd.isAgg30 Tryd.sizeOf30 (by simp) (ld_rr (m := 12) (n := 12) (by simp) (by simp) rfl) rfl rfl ?_
  refine lx_arr3 (FF (p3 x)) rfl rfl rfl Tryd.underlying72 Tryd.sizeOf30 zv72 (fe2_len _) (fe2_len _) (fe2_len _) rfl rfl ?_
  refine lx_storea 2 hGF rfl rfl rfl Tryd.sizeOf72 (by simp) (by simp) (one_u64 _) rfl ?_
  refine lx_nil ?_
  refine x_ret ?_
  repeat (first | refine kseq_ret ?_ | refine kblk_ret ?_)
  exact kret_own 2 rfl rfl rfl Tryd.isAgg72 Tryd.sizeOf72 (by simp) (fun w hw => ⟨rfl, hp_below hw⟩)
theorem k6of (f : Nat → W2) : Pure Tryd.prog Gt 65 [TV3 f] (EV6 (f 0, f 1, f 2)) := by
  intro w hw
  have hGF : BOk Gt (pl w) := gt_low.plain hw
  refine calls_of_X (G := Gt) Tryd.func65 rfl rfl (Hp (pl w) []) (hp_refl (pl w) trivial rides_true) (good_hp hGF) ?_
  refine xs_plain (E := EE []) ?_
  refine lx_boxr 1 hGF rfl rfl rfl ?_
  intro b1
  refine lx_allocr 2 hGF zv32 rfl rfl ?_
  intro b2
  refine lx_nil ?_
  refine xs_plain (E := EE []) ?_
  refine lx_iak (0) (12 * (0)) rfl rfl Tryd.underlying72 Tryd.sizeOf30 (by omega) (by omega) (by omega) rfl rfl ?_
  refine lx_loado 1 ((fe (f 0).1 ++ fe (f 0).2).map U64) rfl rfl Tryd.isAgg30 Tryd.sizeOf30 (by simp) (FF_load _ (f 0) 3 (0) _ (by omega) rfl (rfl)) rfl rfl ?_
  refine lx_iak (1) (12 * (1)) rfl rfl Tryd.underlying72 Tryd.sizeOf30 (by omega) (by omega) (by omega) rfl rfl ?_
  refine lx_loado 1 ((fe (f 1).1 ++ fe (f 1).2).map U64) rfl rfl Tryd.isAgg30 Tryd.sizeOf30 (by simp) (FF_load _ (f 1) 3 (1) _ (by omega) rfl (rfl)) rfl rfl ?_
  refine lx_iak (2) (12 * (2)) rfl rfl Tryd.underlying72 Tryd.sizeOf30 (by omega) (by omega) (by omega) rfl rfl ?_
  refine lx_loado 1 ((fe (f 2).1 ++ fe (f 2).2).map U64) rfl rfl Tryd.isAgg30 Tryd.sizeOf30 (by simp) (FF_load _ (f 2) 3 (2) _ (by omega) rfl (rfl)) rfl rfl ?_
  refine lx_three012 three32 rfl rfl rfl (by simp) (by simp) (by simp) rfl rfl ?_
  refine lx_storea 2 hGF rfl rfl rfl Tryd.sizeOf32 (by simp) (by simp) (one_u64 _) rfl ?_
  refine lx_nil ?_
  refine x_ret ?_
  repeat (first | refine kseq_ret ?_ | refine kblk_ret ?_)
  exact kret_own 2 rfl rfl rfl Tryd.isAgg32 Tryd.sizeOf32 (by simp) (fun w hw => ⟨rfl, hp_below hw⟩)
theorem k6parts_calls (x : W6) (w : World) (hw : Gt w) : Calls Tryd.prog 38 [EV6 x].toArray w (fun e w' => ∃ b1, e = .returned (.func (.func 57) #[] #[.pointer (some ⟨b1, 0, none⟩)]) ∧ Grow w w' ∧ w.heap.size ≤ b1 ∧ OwnB w' b1 (((fe (x.1).1 ++ fe (x.1).2) ++ ((fe (x.2.1).1 ++ fe (x.2.1).2) ++ (fe (x.2.2).1 ++ fe (x.2.2).2))).map U64) 32) := by
  have hGF : BOk Gt (pl w) := gt_low.plain hw
  refine calls_of_X (G := Gt) Tryd.func38 rfl rfl (Hp (pl w) []) (hp_refl (pl w) trivial rides_true) (good_hp hGF) ?_
  refine xs_plain (E := EE []) ?_
  refine lx_boxr 1 hGF rfl rfl rfl ?_
  intro b1
  refine lx_assign rfl rfl rfl ?_
  refine lx_nil ?_
  refine xs_plain (E := EE []) ?_
  refine lx_func rfl rfl rfl rfl ?_
  refine lx_assign rfl rfl rfl ?_
  refine lx_nil ?_
  refine x_ret ?_
  repeat (first | refine kseq_ret ?_ | refine kblk_ret ?_)
  exact kret_tmp rfl rfl (fun w hw => ⟨b1, rfl, hp_below hw, (hw.own 1 b1 _ _ rfl).2.elim id False.elim, (hw.own 1 b1 _ _ rfl).1⟩)
def PS (x : W6) : List (List Value) := (List.range 3).map fun (k : Nat) => [I (k : Int), EV2 (p3 x k)]
theorem PS_len (x : W6) : (PS x).length = 3 := by rw [PS, List.length_map, List.length_range]
theorem PS_get (x : W6) (k : Nat) (h : k < 3) : (PS x)[k]? = some [I (k : Int), EV2 (p3 x k)] := by
  rw [PS, List.getElem?_map, List.getElem?_range h]; rfl
theorem PS_at (x : W6) (k : Nat) (v : List Value) (h : (PS x)[k]? = some v) : k < 3 ∧ v = [I (k : Int), EV2 (p3 x k)] := by
  have hk : k < 3 := by
    rcases Nat.lt_or_ge k 3 with hk | hk
    · exact hk
    · rw [List.getElem?_eq_none (by rw [PS_len]; exact hk)] at h; cases h
  exact ⟨hk, (Option.some.inj ((PS_get x k hk).symm.trans h)).symm⟩
def RdP (bb : Nat) (x : W6) : Cls := fun w => w.rangeAt bb 0 (((fe (x.1).1 ++ fe (x.1).2) ++ ((fe (x.2.1).1 ++ fe (x.2.1).2) ++ (fe (x.2.2).1 ++ fe (x.2.2).2))).map U64)
theorem k6seq (bb : Nat) (x : W6) : SeqOk Tryd.prog Gt 57 [.pointer (some ⟨bb, 0, none⟩)] (PS x) (RdP bb x) := by
  intro l J Jx hJ hJx hRd hGx hY w hj
  have okJ : ∀ k, BOk Gt (Bi w (fun Y => J Y k)) := fun k => ⟨fun _ _ _ h => (hRd _ _ _ h.rid).1, hJ k⟩
  have okX : ∀ k, BOk Gt (Bi w (fun Y => Jx Y k)) := fun k => ⟨fun _ _ _ h => hGx _ _ _ h.rid, hJx k⟩
  have c1 : ∀ k L w', Hp (Bi w (fun Y => J Y k)) L w' → RdP bb x w' := fun k L w' h => (hRd _ _ _ h.rid).2
  refine calls_of_X (G := Gt) Tryd.func57 rfl rfl (Hp (Bi w (fun Y => J Y 0)) []) (hp_refl (Bi w _) hj (hJ 0)) (good_hp (okJ 0)) ?_
  refine xs_plain (E := EE []) ?_
  refine lx_loadr rfl Tryd.isAgg32 Tryd.sizeOf32 (by simp) (fun w h => c1 _ _ w h) rfl rfl ?_
  refine lx_call rfl rfl ent48 (k6list _) rfl rfl ?_
  refine lx_move rfl rfl rfl ?_
  refine lx_nil ?_
  refine x_block ?_
  refine x_forB (ι := { i : Nat // i ≤ 3 }) (fun y => [(0, .func (.yield l) #[] #[]), (1, .pointer (some ⟨bb, 0, none⟩)), (6, TV3 (p3 x)), (7, I (y.1 : Int))]) (fun y => Bi w (fun Y => J Y y.1)) (fun y => []) (fun y => 3 - y.1) ⟨0, Nat.zero_le _⟩ (fun _ => okJ _) rfl ⟨rfl, rfl, rfl, rfl, trivial⟩ trivial ?_
  rintro ⟨i, hi⟩
  dsimp only
  refine xs_plain (E := EE []) ?_
  refine lx_bin rfl rfl (fun _ => rfl) (fun _ => bin_lss_i _ _ _) rfl rfl ?_
  refine lx_nil ?_
  refine x_seq ?_
  refine x_if rfl (fun hc => ?_) (fun hc => ?_)
  · have hi2 : i < 3 := by simp at hc; omega
    refine x_skip ?_
    refine x_seq ?_
    refine x_block ?_
    refine xs_plain (E := EE []) ?_
    refine lx_move rfl rfl rfl ?_
    refine lx_idxF (FF (p3 x)) (i) rfl rfl Tryd.underlying72 Tryd.sizeOf30 Tryd.isAgg30 (by omega) (by omega) (fe2_len _) rfl rfl ?_
    refine lx_allocr 4 (okJ _) zv30 rfl rfl ?_
    intro b4
    refine lx_assign rfl rfl rfl ?_
    refine lx_storea 4 (okJ _) rfl rfl rfl Tryd.sizeOf30 (by simp) (by simp) (one_u64 _) rfl ?_
    refine lx_nil ?_
    refine xs_plain (E := EE []) ?_
    refine lx_move rfl rfl rfl ?_
    refine lx_move rfl rfl rfl ?_
    refine lx_loada 4 rfl rfl Tryd.isAgg30 Tryd.sizeOf30 (by simp) rfl rfl ?_
    refine lx_yield (hY.b (k := i) (PS_get x i (by omega)) w) (okJ _) (okX _) rfl rfl rfl rfl rfl ?_ ?_
    · skip
      refine lx_un rfl (fun _ => un_not _) rfl rfl ?_
      refine lx_nil ?_
      refine x_false rfl ?_
      refine x_skip ?_
      refine x_plain (E := EE []) ?_
      refine lx_bin rfl rfl (fun _ => rfl) (fun _ => bin_add_i _ _ _ (by unfold inI; omega)) rfl rfl ?_
      refine lx_move rfl rfl rfl ?_
      refine lx_nil ?_
      repeat (refine kblk_n ?_)
      refine kseq_n ?_
      exact ⟨rfl, ⟨i + 1, by omega⟩, _, by show 3 - (i + 1) < 3 - i; omega, rfl, ⟨rfl, rfl, rfl, rfl, trivial⟩, trivial⟩
    · skip
      refine lx_un rfl (fun _ => un_not _) rfl rfl ?_
      refine lx_nil ?_
      refine x_true rfl ?_
      refine x_ret ?_
      repeat (first | refine kseq_ret ?_ | refine kblk_ret ?_)
      repeat (first | refine kseq_x ?_ | refine kblk_x ?_ | refine kblk_p rfl ?_ | refine kseq_ret ?_ | refine kblk_ret ?_)
      exact kret_none rfl (fun w hw => ⟨⟨_, rfl⟩, .inr ⟨_, drop_yof (hJx _) hw.rid⟩⟩)
  · obtain rfl : i = 3 := by simp at hc; omega
    refine x_exit ?_
    repeat (first | refine kseq_x ?_ | refine kblk_x ?_ | refine kblk_p rfl ?_ | refine kseq_ret ?_ | refine kblk_ret ?_)
    refine kend_none rfl (fun w hw => ⟨⟨_, rfl⟩, .inl ?_⟩)
    have := drop_yof (hJ _) hw.rid
    rw [PS_len]
    exact this
theorem k6one  : Pure Tryd.prog Gt 22 [] (EV6 K6.one) := by
  intro w hw
  have hGF : BOk Gt (pl w) := gt_low.plain hw
  refine calls_of_X (G := Gt) Tryd.func22 rfl rfl (Hp (pl w) []) (hp_refl (pl w) trivial rides_true) (good_hp hGF) ?_
  refine xs_plain (E := EE []) ?_
  refine lx_allocr 0 hGF zv32 rfl rfl ?_
  intro b0
  refine lx_nil ?_
  refine xs_plain (E := EE []) ?_
  refine lx_call rfl rfl ent40 (e2one) rfl rfl ?_
  refine lx_three0 three32 rfl (by simp) rfl rfl ?_
  refine lx_storea 0 hGF rfl rfl rfl Tryd.sizeOf32 (by simp) (by simp) (one_u64 _) rfl ?_
  refine lx_nil ?_
  refine x_ret ?_
  repeat (first | refine kseq_ret ?_ | refine kblk_ret ?_)
  exact kret_own 0 rfl rfl rfl Tryd.isAgg32 Tryd.sizeOf32 (by simp) (fun w hw => ⟨rfl, hp_below hw⟩)
theorem k6equal (x y : W6) : Pure Tryd.prog Gt 31 [EV6 x, EV6 y] (.bool (decide (x = y))) := by
  intro w hw
  have hGF : BOk Gt (pl w) := gt_low.plain hw
  refine calls_of_XM (G := Gt) Tryd.func31 rfl rfl (Hp (pl w) []) (hp_refl (pl w) trivial rides_true) (good_hp hGF) ?_
  refine xs_plain (E := EE [38]) ?_
  refine lx_boxr 2 hGF rfl rfl rfl ?_
  intro b2
  refine lx_boxr 3 hGF rfl rfl rfl ?_
  intro b3
  refine lx_alloc 4 hGF Tryd.zeroValue4 rfl rfl ?_
  intro b4
  refine lx_nil ?_
  refine xs_plain (E := EE [38]) ?_
  refine lx_loada 3 rfl rfl Tryd.isAgg32 Tryd.sizeOf32 (by simp) rfl rfl ?_
  refine lx_call rfl rfl ent48 (k6list _) rfl rfl ?_
  refine lx_allocr 5 hGF zv72 rfl rfl ?_
  intro b5
  refine lx_storea 5 hGF rfl rfl rfl Tryd.sizeOf72 (by simp) (by simp) (one_u64 _) rfl ?_
  refine lx_nil ?_
  refine x_seq ?_
  refine xs_plain (E := EE [38]) ?_
  refine lx_loada 2 rfl rfl Tryd.isAgg32 Tryd.sizeOf32 (by simp) rfl rfl ?_
  refine lx_callE rfl rfl ent38 rfl rfl (fun w' hw' => (k6parts_calls x w' (hGF.g _ _ _ hw')).mono fun e' w'' h => ?_)
  obtain ⟨c1, rfl, hg, h1, ho⟩ := h
  refine ⟨_, _, rfl, good_hp hGF, hw'.news rides_true hg [(33, c1, ((fe (x.1).1 ++ fe (x.1).2) ++ ((fe (x.2.1).1 ++ fe (x.2.1).2) ++ (fe (x.2.2).1 ++ fe (x.2.2).2))).map U64, 32)] ?_ inj_one, ?_⟩
  · intro n' b' c' t' hl
    rcases lkB_cons hl with ⟨_, e⟩ | ⟨_, hl⟩
    · cases e; exact ⟨h1, ho⟩
    · cases hl
  clear hw' hg h1 ho
  refine lx_nil ?_
  refine x_block ?_
  refine x_rangeQ (fun k => ∀ j, j < k → p3 x j = p3 y j) (fun _ => pl w) (fun _ _ => pl w) (fun _ => hGF) (fun _ _ => hGF) (fun _ => rfl) (fun _ _ => rfl) rfl rfl ent57 (k6seq c1 x) (fun v hv => by obtain ⟨k, hk, rfl⟩ := List.mem_map.1 hv; rfl) rfl (fun k => [(2, b2, ((fe (x.1).1 ++ fe (x.1).2) ++ ((fe (x.2.1).1 ++ fe (x.2.1).2) ++ (fe (x.2.2).1 ++ fe (x.2.2).2))).map U64, 32), (3, b3, ((fe (y.1).1 ++ fe (y.1).2) ++ ((fe (y.2.1).1 ++ fe (y.2.1).2) ++ (fe (y.2.2).1 ++ fe (y.2.2).2))).map U64, 32), (4, b4, [.bool false], 4), (5, b5, (FM (FF (p3 y)) 3).map U64, 72), (33, c1, ((fe (x.1).1 ++ fe (x.1).2) ++ ((fe (x.2.1).1 ++ fe (x.2.1).2) ++ (fe (x.2.2).1 ++ fe (x.2.2).2))).map U64, 32)]) (fun c _ L' => c = .ret ∧ lkB L' 4 = some (b4, [.bool false], 4) ∧ ¬ x = y) (fun j h => absurd h (Nat.not_lt_zero j)) ⟨rfl, rfl, rfl, rfl, rfl, trivial⟩ (fun k _ w' h => hp_row (n := 33) rfl w' h) ?_ ?_ ?_ (fun D c k L' hD h => by obtain ⟨rfl, hl, hne⟩ := h; refine kout_ret ?_; refine kblk_ret ?_; refine kseq_ret ?_; exact (kretM_1 (.inl rfl) rides_true (kret_ownb 4 rfl rfl hl Tryd.isAgg4 (fun w hw => ⟨congrArg (fun b => Ending.returned (.bool b)) (decide_eq_false hne).symm, hp_below hw⟩))))
  · intro k v hx hQ R hR
    obtain ⟨hk, rfl⟩ := PS_at x k v hx
    refine xs_plain (E := EE [38]) ?_
    refine lx_assign rfl rfl rfl ?_
    refine lx_nil ?_
    refine x_plain (E := EE [38]) ?_
    refine lx_allocr 7 (hR (pl w) rfl hGF).1 zv30 rfl rfl ?_
    intro b7
    refine lx_storea 7 (hR (pl w) rfl hGF).1 rfl rfl rfl Tryd.sizeOf30 (by simp) (by simp) (one_u64 _) rfl ?_
    refine lx_nil ?_
    refine ⟨rfl, _, rfl, ?_⟩
    refine x_block ?_
    refine xs_drawn (E := EE [38]) mixed (by kernel_rfl) (by kernel_rfl) (by kernel_rfl) ?_
    refine lx_loada 7 rfl rfl Tryd.isAgg30 Tryd.sizeOf30 (by simp) rfl rfl ?_
    refine lx_move rfl rfl rfl ?_
    refine lx_iak (k) (12 * (k)) rfl rfl Tryd.underlying72 Tryd.sizeOf30 (by omega) (by omega) (by omega) rfl rfl ?_
    refine lx_loado 5 ((fe (p3 y k).1 ++ fe (p3 y k).2).map U64) rfl rfl Tryd.isAgg30 Tryd.sizeOf30 (by simp) (FF_load _ (p3 y k) 3 (k) _ (by omega) rfl (rfl)) rfl rfl ?_
    refine lx_call rfl rfl ent19 (e2equal _ _) rfl rfl ?_
    refine lx_un rfl (fun _ => un_not _) rfl rfl ?_
    refine lx_nil ?_
    refine x_if rfl (fun hc => ?_) (fun hc => ?_)
    · have hc : ¬ p3 x k = p3 y k := by simpa using hc
      refine xs_plain (E := EE [38]) ?_
      refine lx_store 4 (hR (pl w) rfl hGF).2.1 rfl rfl rfl Tryd.sizeOf4 rfl (by simp [*]) rfl ?_
      refine lx_nil ?_
      refine x_ret ?_
      repeat (first | refine kseq_ret ?_ | refine kblk_ret ?_)
      repeat (first | refine kseq_ret ?_ | refine kblk_ret ?_)
      exact ⟨_, rfl, rfl, rfl, fun e => hc (by rw [e])⟩
    · have hc : p3 x k = p3 y k := by simpa using hc
      refine x_skip ?_
      repeat (refine kblk_n ?_)
      exact ⟨_, rfl, subQ (lt_s hQ hc) ⟨rfl, rfl, rfl, rfl, rfl, trivial⟩⟩
  · intro hQ D hD
    rw [PS_len] at *
    have hxy := p3_ext hQ
    refine xs_plain (E := EE [38]) ?_
    refine lx_store 4 hD rfl rfl rfl Tryd.sizeOf4 rfl (by simp [*]) rfl ?_
    refine lx_nil ?_
    refine x_ret ?_
    repeat (first | refine kseq_ret ?_ | refine kblk_ret ?_)
    exact kretM_1 (.inl rfl) rides_true (kret_ownb 4 rfl rfl rfl Tryd.isAgg4 (fun w hw => ⟨congrArg (fun b => Ending.returned (.bool b)) (decide_eq_true hxy).symm, hp_below hw⟩))
  · intro D hb
    refine kblk_n ?_
    refine kseq_n ?_
    exact x_absurd hb
theorem p3_ne {x : W6} {k : Nat} (hk : k < 3) (h : ¬ p3 x k = ze2) : ¬ x = K6.zero := fun e => h (by
  subst e
  match k, hk with
  | 0, _ => rfl
  | 1, _ => rfl
  | 2, _ => rfl)
theorem p3_ze {x : W6} (h : ∀ j, j < 3 → p3 x j = ze2) : x = K6.zero := Prod.ext (h 0 (by decide)) (Prod.ext (h 1 (by decide)) (h 2 (by decide)))
theorem k6isZero (x : W6) : Pure Tryd.prog Gt 21 [EV6 x] (.bool (decide (x = K6.zero))) := by
  intro w hw
  have hGF : BOk Gt (pl w) := gt_low.plain hw
  refine calls_of_XM (G := Gt) Tryd.func21 rfl rfl (Hp (pl w) []) (hp_refl (pl w) trivial rides_true) (good_hp hGF) ?_
  refine xs_plain (E := EE [38]) ?_
  refine lx_boxr 1 hGF rfl rfl rfl ?_
  intro b1
  refine lx_alloc 2 hGF Tryd.zeroValue4 rfl rfl ?_
  intro b2
  refine lx_nil ?_
  refine x_seq ?_
  refine xs_plain (E := EE [38]) ?_
  refine lx_loada 1 rfl rfl Tryd.isAgg32 Tryd.sizeOf32 (by simp) rfl rfl ?_
  refine lx_callE rfl rfl ent38 rfl rfl (fun w' hw' => (k6parts_calls x w' (hGF.g _ _ _ hw')).mono fun e' w'' h => ?_)
  obtain ⟨c1, rfl, hg, h1, ho⟩ := h
  refine ⟨_, _, rfl, good_hp hGF, hw'.news rides_true hg [(33, c1, ((fe (x.1).1 ++ fe (x.1).2) ++ ((fe (x.2.1).1 ++ fe (x.2.1).2) ++ (fe (x.2.2).1 ++ fe (x.2.2).2))).map U64, 32)] ?_ inj_one, ?_⟩
  · intro n' b' c' t' hl
    rcases lkB_cons hl with ⟨_, e⟩ | ⟨_, hl⟩
    · cases e; exact ⟨h1, ho⟩
    · cases hl
  clear hw' hg h1 ho
  refine lx_nil ?_
  refine x_block ?_
  refine x_rangeQ (fun k => ∀ j, j < k → p3 x j = ze2) (fun _ => pl w) (fun _ _ => pl w) (fun _ => hGF) (fun _ _ => hGF) (fun _ => rfl) (fun _ _ => rfl) rfl rfl ent57 (k6seq c1 x) (fun v hv => by obtain ⟨k, hk, rfl⟩ := List.mem_map.1 hv; rfl) rfl (fun k => [(1, b1, ((fe (x.1).1 ++ fe (x.1).2) ++ ((fe (x.2.1).1 ++ fe (x.2.1).2) ++ (fe (x.2.2).1 ++ fe (x.2.2).2))).map U64, 32), (2, b2, [.bool false], 4), (33, c1, ((fe (x.1).1 ++ fe (x.1).2) ++ ((fe (x.2.1).1 ++ fe (x.2.1).2) ++ (fe (x.2.2).1 ++ fe (x.2.2).2))).map U64, 32)]) (fun c _ L' => c = .ret ∧ lkB L' 2 = some (b2, [.bool false], 4) ∧ ¬ x = K6.zero) (fun j h => absurd h (Nat.not_lt_zero j)) ⟨rfl, rfl, rfl, trivial⟩ (fun k _ w' h => hp_row (n := 33) rfl w' h) ?_ ?_ ?_ (fun D c k L' hD h => by obtain ⟨rfl, hl, hne⟩ := h; refine kout_ret ?_; refine kblk_ret ?_; refine kseq_ret ?_; exact (kretM_1 (.inl rfl) rides_true (kret_ownb 2 rfl rfl hl Tryd.isAgg4 (fun w hw => ⟨congrArg (fun b => Ending.returned (.bool b)) (decide_eq_false hne).symm, hp_below hw⟩))))
  · intro k v hx hQ R hR
    obtain ⟨hk, rfl⟩ := PS_at x k v hx
    refine x_plain (E := EE [38]) ?_
    refine lx_allocr 4 (hR (pl w) rfl hGF).1 zv30 rfl rfl ?_
    intro b4
    refine lx_storea 4 (hR (pl w) rfl hGF).1 rfl rfl rfl Tryd.sizeOf30 (by simp) (by simp) (one_u64 _) rfl ?_
    refine lx_nil ?_
    refine ⟨rfl, _, rfl, ?_⟩
    refine x_block ?_
    refine xs_plain (E := EE [38]) ?_
    refine lx_loada 4 rfl rfl Tryd.isAgg30 Tryd.sizeOf30 (by simp) rfl rfl ?_
    refine lx_call rfl rfl ent39 (e2isZero _) rfl rfl ?_
    refine lx_un rfl (fun _ => un_not _) rfl rfl ?_
    refine lx_nil ?_
    refine x_if rfl (fun hc => ?_) (fun hc => ?_)
    · have hc : ¬ p3 x k = ze2 := by simpa using hc
      refine xs_plain (E := EE [38]) ?_
      refine lx_store 2 (hR (pl w) rfl hGF).2.1 rfl rfl rfl Tryd.sizeOf4 rfl (by simp [*]) rfl ?_
      refine lx_nil ?_
      refine x_ret ?_
      repeat (first | refine kseq_ret ?_ | refine kblk_ret ?_)
      repeat (first | refine kseq_ret ?_ | refine kblk_ret ?_)
      exact ⟨_, rfl, rfl, rfl, p3_ne hk hc⟩
    · have hc : p3 x k = ze2 := by simpa using hc
      refine x_skip ?_
      repeat (refine kblk_n ?_)
      exact ⟨_, rfl, subQ (lt_s hQ hc) ⟨rfl, rfl, rfl, trivial⟩⟩
  · intro hQ D hD
    rw [PS_len] at *
    have hxy := p3_ze hQ
    refine xs_plain (E := EE [38]) ?_
    refine lx_store 2 hD rfl rfl rfl Tryd.sizeOf4 rfl (by simp [*]) rfl ?_
    refine lx_nil ?_
    refine x_ret ?_
    repeat (first | refine kseq_ret ?_ | refine kblk_ret ?_)
    exact kretM_1 (.inl rfl) rides_true (kret_ownb 2 rfl rfl rfl Tryd.isAgg4 (fun w hw => ⟨congrArg (fun b => Ending.returned (.bool b)) (decide_eq_true hxy).symm, hp_below hw⟩))
  · intro D hb
    refine kblk_n ?_
    refine kseq_n ?_
    exact x_absurd hb
theorem k6add (x y : W6) : Pure Tryd.prog Gt 28 [EV6 x, EV6 y] (EV6 (K6.add x y)) := by
  intro w hw
  have hGF : BOk Gt (pl w) := gt_low.plain hw
  refine calls_of_X (G := Gt) Tryd.func28 rfl rfl (Hp (pl w) []) (hp_refl (pl w) trivial rides_true) (good_hp hGF) ?_
  refine xs_plain (E := EE []) ?_
  refine lx_boxr 2 hGF rfl rfl rfl ?_
  intro b2
  refine lx_boxr 3 hGF rfl rfl rfl ?_
  intro b3
  refine lx_allocr 4 hGF zv32 rfl rfl ?_
  intro b4
  refine lx_nil ?_
  refine xs_drawn (E := EE []) mixed (by kernel_rfl) (by kernel_rfl) (by kernel_rfl) ?_
  refine lx_fak 0 rfl Tryd.underlying32 rfl Tryd.sizeOf30 (by decide) rfl rfl rfl ?_
  refine lx_loado 2 _ rfl rfl Tryd.isAgg30 Tryd.sizeOf30 (by simp) ld_l rfl rfl ?_
  refine lx_fak 0 rfl Tryd.underlying32 rfl Tryd.sizeOf30 (by decide) rfl rfl rfl ?_
  refine lx_loado 3 _ rfl rfl Tryd.isAgg30 Tryd.sizeOf30 (by simp) ld_l rfl rfl ?_
  refine lx_call rfl rfl ent45 (e2add _ _) rfl rfl ?_
  refine lx_fak 12 rfl Tryd.underlying32 rfl Tryd.sizeOf30 (by decide) rfl rfl rfl ?_
  refine lx_loado 2 _ rfl rfl Tryd.isAgg30 Tryd.sizeOf30 (by simp) (ld_m (by simp)) rfl rfl ?_
  refine lx_fak 12 rfl Tryd.underlying32 rfl Tryd.sizeOf30 (by decide) rfl rfl rfl ?_
  refine lx_loado 3 _ rfl rfl Tryd.isAgg30 Tryd.sizeOf30 (by simp) (ld_m (by simp)) rfl rfl ?_
  refine lx_call rfl rfl ent45 (e2add _ _) rfl rfl ?_
  refine lx_fak 24 rfl Tryd.underlying32 rfl Tryd.sizeOf30 (by decide) rfl rfl rfl ?_
  refine lx_loado 2 _ rfl rfl Tryd.isAgg30 Tryd.sizeOf30 (by simp) (ld_rr (m := 12) (n := 12) (by simp) (by simp) rfl) rfl rfl ?_
  refine lx_fak 24 rfl Tryd.underlying32 rfl Tryd.sizeOf30 (by decide) rfl rfl rfl ?_
  refine lx_loado 3 _ rfl rfl Tryd.isAgg30 Tryd.sizeOf30 (by simp) (ld_rr (m := 12) (n := 12) (by simp) (by simp) rfl) rfl rfl ?_
  refine lx_call rfl rfl ent45 (e2add _ _) rfl rfl ?_
  refine lx_three012 three32 rfl rfl rfl (by simp) (by simp) (by simp) rfl rfl ?_
  refine lx_storea 4 hGF rfl rfl rfl Tryd.sizeOf32 (by simp) (by simp) (one_u64 _) rfl ?_
  refine lx_nil ?_
  refine x_ret ?_
  repeat (first | refine kseq_ret ?_ | refine kblk_ret ?_)
  exact kret_own 4 rfl rfl rfl Tryd.isAgg32 Tryd.sizeOf32 (by simp) (fun w hw => ⟨rfl, hp_below hw⟩)
theorem k6sub (x y : W6) : Pure Tryd.prog Gt 30 [EV6 x, EV6 y] (EV6 (sb6 x y)) := by
  intro w hw
  have hGF : BOk Gt (pl w) := gt_low.plain hw
  refine calls_of_X (G := Gt) Tryd.func30 rfl rfl (Hp (pl w) []) (hp_refl (pl w) trivial rides_true) (good_hp hGF) ?_
  refine xs_plain (E := EE []) ?_
  refine lx_boxr 2 hGF rfl rfl rfl ?_
  intro b2
  refine lx_boxr 3 hGF rfl rfl rfl ?_
  intro b3
  refine lx_allocr 4 hGF zv32 rfl rfl ?_
  intro b4
  refine lx_nil ?_
  refine xs_drawn (E := EE []) mixed (by kernel_rfl) (by kernel_rfl) (by kernel_rfl) ?_
  refine lx_fak 0 rfl Tryd.underlying32 rfl Tryd.sizeOf30 (by decide) rfl rfl rfl ?_
  refine lx_loado 2 _ rfl rfl Tryd.isAgg30 Tryd.sizeOf30 (by simp) ld_l rfl rfl ?_
  refine lx_fak 0 rfl Tryd.underlying32 rfl Tryd.sizeOf30 (by decide) rfl rfl rfl ?_
  refine lx_loado 3 _ rfl rfl Tryd.isAgg30 Tryd.sizeOf30 (by simp) ld_l rfl rfl ?_
  refine lx_call rfl rfl ent46 (e2sub _ _) rfl rfl ?_
  refine lx_fak 12 rfl Tryd.underlying32 rfl Tryd.sizeOf30 (by decide) rfl rfl rfl ?_
  refine lx_loado 2 _ rfl rfl Tryd.isAgg30 Tryd.sizeOf30 (by simp) (ld_m (by simp)) rfl rfl ?_
  refine lx_fak 12 rfl Tryd.underlying32 rfl Tryd.sizeOf30 (by decide) rfl rfl rfl ?_
  refine lx_loado 3 _ rfl rfl Tryd.isAgg30 Tryd.sizeOf30 (by simp) (ld_m (by simp)) rfl rfl ?_
  refine lx_call rfl rfl ent46 (e2sub _ _) rfl rfl ?_
  refine lx_fak 24 rfl Tryd.underlying32 rfl Tryd.sizeOf30 (by decide) rfl rfl rfl ?_
  refine lx_loado 2 _ rfl rfl Tryd.isAgg30 Tryd.sizeOf30 (by simp) (ld_rr (m := 12) (n := 12) (by simp) (by simp) rfl) rfl rfl ?_
  refine lx_fak 24 rfl Tryd.underlying32 rfl Tryd.sizeOf30 (by decide) rfl rfl rfl ?_
  refine lx_loado 3 _ rfl rfl Tryd.isAgg30 Tryd.sizeOf30 (by simp) (ld_rr (m := 12) (n := 12) (by simp) (by simp) rfl) rfl rfl ?_
  refine lx_call rfl rfl ent46 (e2sub _ _) rfl rfl ?_
  refine lx_three012 three32 rfl rfl rfl (by simp) (by simp) (by simp) rfl rfl ?_
  refine lx_storea 4 hGF rfl rfl rfl Tryd.sizeOf32 (by simp) (by simp) (one_u64 _) rfl ?_
  refine lx_nil ?_
  refine x_ret ?_
  repeat (first | refine kseq_ret ?_ | refine kblk_ret ?_)
  exact kret_own 4 rfl rfl rfl Tryd.isAgg32 Tryd.sizeOf32 (by simp) (fun w hw => ⟨rfl, hp_below hw⟩)
theorem k6neg (x : W6) : Pure Tryd.prog Gt 34 [EV6 x] (EV6 (K6.neg x)) := by
  intro w hw
  have hGF : BOk Gt (pl w) := gt_low.plain hw
  refine calls_of_X (G := Gt) Tryd.func34 rfl rfl (Hp (pl w) []) (hp_refl (pl w) trivial rides_true) (good_hp hGF) ?_
  refine xs_plain (E := EE []) ?_
  refine lx_boxr 1 hGF rfl rfl rfl ?_
  intro b1
  refine lx_allocr 2 hGF zv32 rfl rfl ?_
  intro b2
  refine lx_nil ?_
  refine xs_drawn (E := EE []) mixed (by kernel_rfl) (by kernel_rfl) (by kernel_rfl) ?_
  refine lx_fak 0 rfl Tryd.underlying32 rfl Tryd.sizeOf30 (by decide) rfl rfl rfl ?_
  refine lx_loado 1 _ rfl rfl Tryd.isAgg30 Tryd.sizeOf30 (by simp) ld_l rfl rfl ?_
  refine lx_call rfl rfl ent53 (e2neg _) rfl rfl ?_
  refine lx_fak 12 rfl Tryd.underlying32 rfl Tryd.sizeOf30 (by decide) rfl rfl rfl ?_
  refine lx_loado 1 _ rfl rfl Tryd.isAgg30 Tryd.sizeOf30 (by simp) (ld_m (by simp)) rfl rfl ?_
  refine lx_call rfl rfl ent53 (e2neg _) rfl rfl ?_
  refine lx_fak 24 rfl Tryd.underlying32 rfl Tryd.sizeOf30 (by decide) rfl rfl rfl ?_
  refine lx_loado 1 _ rfl rfl Tryd.isAgg30 Tryd.sizeOf30 (by simp) (ld_rr (m := 12) (n := 12) (by simp) (by simp) rfl) rfl rfl ?_
  refine lx_call rfl rfl ent53 (e2neg _) rfl rfl ?_
  refine lx_three012 three32 rfl rfl rfl (by simp) (by simp) (by simp) rfl rfl ?_
  refine lx_storea 2 hGF rfl rfl rfl Tryd.sizeOf32 (by simp) (by simp) (one_u64 _) rfl ?_
  refine lx_nil ?_
  refine x_ret ?_
  repeat (first | refine kseq_ret ?_ | refine kblk_ret ?_)
  exact kret_own 2 rfl rfl rfl Tryd.isAgg32 Tryd.sizeOf32 (by simp) (fun w hw => ⟨rfl, hp_below hw⟩)
theorem k6mul (x y : W6) : Pure Tryd.prog Gt 27 [EV6 x, EV6 y] (EV6 (K6.mul x y)) := by
  intro w hw
  have hGF : BOk Gt (pl w) := gt_low.plain hw
  refine calls_of_X (G := Gt) Tryd.func27 rfl rfl (Hp (pl w) []) (hp_refl (pl w) trivial rides_true) (good_hp hGF) ?_
  refine xs_plain (E := EE []) ?_
  refine lx_boxr 2 hGF rfl rfl rfl ?_
  intro b2
  refine lx_boxr 3 hGF rfl rfl rfl ?_
  intro b3
  refine lx_allocr 4 hGF zv32 rfl rfl ?_
  intro b4
  refine lx_nil ?_
  refine xs_drawA (E := EE [2999999]) [0, 1, 2, 3, 4, 5, 6, 7, 8, 9, 10, 11, 12, 13, 14] [⟨15, 5, 30, (fe 0 ++ fe 0).map U64⟩, ⟨16, 6, 30, (fe 0 ++ fe 0).map U64⟩, ⟨17, 7, 30, (fe 0 ++ fe 0).map U64⟩] [18, 19, 20] mixed rfl (by kernel_rfl) (by kernel_rfl) (by kernel_rfl) (by kernel_rfl) (by kernel_rfl) (by kernel_rfl) (by decide) (by intro x hx; simp only [List.mem_cons, List.not_mem_nil, or_false] at hx; rcases hx with rfl | rfl | rfl <;> exact isAlloc_mk rfl zv30 rfl) ?_
  refine lx_fak 0 rfl Tryd.underlying32 rfl Tryd.sizeOf30 (by decide) rfl rfl rfl ?_
  refine lx_loado 2 _ rfl rfl Tryd.isAgg30 Tryd.sizeOf30 (by simp) ld_l rfl rfl ?_
  refine lx_fak 0 rfl Tryd.underlying32 rfl Tryd.sizeOf30 (by decide) rfl rfl rfl ?_
  refine lx_loado 3 _ rfl rfl Tryd.isAgg30 Tryd.sizeOf30 (by simp) ld_l rfl rfl ?_
  refine lx_call rfl rfl ent44 (e2mul _ _) rfl rfl ?_
  refine lx_fak 12 rfl Tryd.underlying32 rfl Tryd.sizeOf30 (by decide) rfl rfl rfl ?_
  refine lx_loado 2 _ rfl rfl Tryd.isAgg30 Tryd.sizeOf30 (by simp) (ld_m (by simp)) rfl rfl ?_
  refine lx_fak 12 rfl Tryd.underlying32 rfl Tryd.sizeOf30 (by decide) rfl rfl rfl ?_
  refine lx_loado 3 _ rfl rfl Tryd.isAgg30 Tryd.sizeOf30 (by simp) (ld_m (by simp)) rfl rfl ?_
  refine lx_call rfl rfl ent44 (e2mul _ _) rfl rfl ?_
  refine lx_fak 24 rfl Tryd.underlying32 rfl Tryd.sizeOf30 (by decide) rfl rfl rfl ?_
  refine lx_loado 2 _ rfl rfl Tryd.isAgg30 Tryd.sizeOf30 (by simp) (ld_rr (m := 12) (n := 12) (by simp) (by simp) rfl) rfl rfl ?_
  refine lx_fak 24 rfl Tryd.underlying32 rfl Tryd.sizeOf30 (by decide) rfl rfl rfl ?_
  refine lx_loado 3 _ rfl rfl Tryd.isAgg30 Tryd.sizeOf30 (by simp) (ld_rr (m := 12) (n := 12) (by simp) (by simp) rfl) rfl rfl ?_
  refine lx_call rfl rfl ent44 (e2mul _ _) rfl rfl ?_
  refine lx_nil ?_
  refine ⟨_, _, rfl, hGF, by intro x hx; simp only [List.mem_cons, List.not_mem_nil, or_false] at hx; rcases hx with rfl | rfl | rfl <;> rfl, by intro x hx; simp only [List.mem_cons, List.not_mem_nil, or_false] at hx; rcases hx with rfl | rfl | rfl <;> rfl, fun adr => ?_⟩
  refine lx_storea 5 hGF rfl rfl rfl Tryd.sizeOf30 (by simp) (by simp) (one_u64 _) rfl ?_
  refine lx_storea 6 hGF rfl rfl rfl Tryd.sizeOf30 (by simp) (by simp) (one_u64 _) rfl ?_
  refine lx_storea 7 hGF rfl rfl rfl Tryd.sizeOf30 (by simp) (by simp) (one_u64 _) rfl ?_
  refine lx_nil ?_
  refine xs_drawA (E := EE [2999999]) [0, 1, 2, 3, 4, 5, 6, 7, 8, 9, 10, 11, 12, 13, 14] [⟨15, 8, 30, (fe 0 ++ fe 0).map U64⟩] [16] mixed rfl (by kernel_rfl) (by kernel_rfl) (by kernel_rfl) (by kernel_rfl) (by kernel_rfl) (by kernel_rfl) (by decide) (by intro x hx; simp only [List.mem_cons, List.not_mem_nil, or_false] at hx; subst hx; exact isAlloc_mk rfl zv30 rfl) ?_
  refine lx_fak 0 rfl Tryd.underlying32 rfl Tryd.sizeOf30 (by decide) rfl rfl rfl ?_
  refine lx_loado 2 _ rfl rfl Tryd.isAgg30 Tryd.sizeOf30 (by simp) ld_l rfl rfl ?_
  refine lx_fak 12 rfl Tryd.underlying32 rfl Tryd.sizeOf30 (by decide) rfl rfl rfl ?_
  refine lx_loado 2 _ rfl rfl Tryd.isAgg30 Tryd.sizeOf30 (by simp) (ld_m (by simp)) rfl rfl ?_
  refine lx_call rfl rfl ent45 (e2add _ _) rfl rfl ?_
  refine lx_fak 0 rfl Tryd.underlying32 rfl Tryd.sizeOf30 (by decide) rfl rfl rfl ?_
  refine lx_loado 3 _ rfl rfl Tryd.isAgg30 Tryd.sizeOf30 (by simp) ld_l rfl rfl ?_
  refine lx_fak 12 rfl Tryd.underlying32 rfl Tryd.sizeOf30 (by decide) rfl rfl rfl ?_
  refine lx_loado 3 _ rfl rfl Tryd.isAgg30 Tryd.sizeOf30 (by simp) (ld_m (by simp)) rfl rfl ?_
  refine lx_call rfl rfl ent45 (e2add _ _) rfl rfl ?_
  refine lx_call rfl rfl ent44 (e2mul _ _) rfl rfl ?_
  refine lx_loada 5 rfl rfl Tryd.isAgg30 Tryd.sizeOf30 (by simp) rfl rfl ?_
  refine lx_call rfl rfl ent46 (e2sub _ _) rfl rfl ?_
  refine lx_loada 6 rfl rfl Tryd.isAgg30 Tryd.sizeOf30 (by simp) rfl rfl ?_
  refine lx_call rfl rfl ent46 (e2sub _ _) rfl rfl ?_
  refine lx_nil ?_
  refine ⟨_, _, rfl, hGF, by intro x hx; simp only [List.mem_cons, List.not_mem_nil, or_false] at hx; subst hx; rfl, by intro x hx; simp only [List.mem_cons, List.not_mem_nil, or_false] at hx; subst hx; rfl, fun adr => ?_⟩
  refine lx_storea 8 hGF rfl rfl rfl Tryd.sizeOf30 (by simp) (by simp) (one_u64 _) rfl ?_
  refine lx_nil ?_
  refine xs_drawA (E := EE [2999999]) [0, 1, 2, 3, 4, 5, 6, 7, 8, 9, 10, 11, 12, 13, 14] [⟨15, 9, 30, (fe 0 ++ fe 0).map U64⟩] [16] mixed rfl (by kernel_rfl) (by kernel_rfl) (by kernel_rfl) (by kernel_rfl) (by kernel_rfl) (by kernel_rfl) (by decide) (by intro x hx; simp only [List.mem_cons, List.not_mem_nil, or_false] at hx; subst hx; exact isAlloc_mk rfl zv30 rfl) ?_
  refine lx_fak 0 rfl Tryd.underlying32 rfl Tryd.sizeOf30 (by decide) rfl rfl rfl ?_
  refine lx_loado 2 _ rfl rfl Tryd.isAgg30 Tryd.sizeOf30 (by simp) ld_l rfl rfl ?_
  refine lx_fak 24 rfl Tryd.underlying32 rfl Tryd.sizeOf30 (by decide) rfl rfl rfl ?_
  refine lx_loado 2 _ rfl rfl Tryd.isAgg30 Tryd.sizeOf30 (by simp) (ld_rr (m := 12) (n := 12) (by simp) (by simp) rfl) rfl rfl ?_
  refine lx_call rfl rfl ent45 (e2add _ _) rfl rfl ?_
  refine lx_fak 0 rfl Tryd.underlying32 rfl Tryd.sizeOf30 (by decide) rfl rfl rfl ?_
  refine lx_loado 3 _ rfl rfl Tryd.isAgg30 Tryd.sizeOf30 (by simp) ld_l rfl rfl ?_
  refine lx_fak 24 rfl Tryd.underlying32 rfl Tryd.sizeOf30 (by decide) rfl rfl rfl ?_
  refine lx_loado 3 _ rfl rfl Tryd.isAgg30 Tryd.sizeOf30 (by simp) (ld_rr (m := 12) (n := 12) (by simp) (by simp) rfl) rfl rfl ?_
  refine lx_call rfl rfl ent45 (e2add _ _) rfl rfl ?_
  refine lx_call rfl rfl ent44 (e2mul _ _) rfl rfl ?_
  refine lx_loada 5 rfl rfl Tryd.isAgg30 Tryd.sizeOf30 (by simp) rfl rfl ?_
  refine lx_call rfl rfl ent46 (e2sub _ _) rfl rfl ?_
  refine lx_loada 7 rfl rfl Tryd.isAgg30 Tryd.sizeOf30 (by simp) rfl rfl ?_
  refine lx_call rfl rfl ent46 (e2sub _ _) rfl rfl ?_
  refine lx_nil ?_
  refine ⟨_, _, rfl, hGF, by intro x hx; simp only [List.mem_cons, List.not_mem_nil, or_false] at hx; subst hx; rfl, by intro x hx; simp only [List.mem_cons, List.not_mem_nil, or_false] at hx; subst hx; rfl, fun adr => ?_⟩
  refine lx_storea 9 hGF rfl rfl rfl Tryd.sizeOf30 (by simp) (by simp) (one_u64 _) rfl ?_
  refine lx_nil ?_
  refine xs_drawA (E := EE [2999999]) [0, 1, 2, 3, 4, 5, 6, 7, 8, 9, 10, 11, 12, 13, 14] [⟨15, 10, 30, (fe 0 ++ fe 0).map U64⟩] [16] mixed rfl (by kernel_rfl) (by kernel_rfl) (by kernel_rfl) (by kernel_rfl) (by kernel_rfl) (by kernel_rfl) (by decide) (by intro x hx; simp only [List.mem_cons, List.not_mem_nil, or_false] at hx; subst hx; exact isAlloc_mk rfl zv30 rfl) ?_
  refine lx_fak 12 rfl Tryd.underlying32 rfl Tryd.sizeOf30 (by decide) rfl rfl rfl ?_
  refine lx_loado 2 _ rfl rfl Tryd.isAgg30 Tryd.sizeOf30 (by simp) (ld_m (by simp)) rfl rfl ?_
  refine lx_fak 24 rfl Tryd.underlying32 rfl Tryd.sizeOf30 (by decide) rfl rfl rfl ?_
  refine lx_loado 2 _ rfl rfl Tryd.isAgg30 Tryd.sizeOf30 (by simp) (ld_rr (m := 12) (n := 12) (by simp) (by simp) rfl) rfl rfl ?_
  refine lx_call rfl rfl ent45 (e2add _ _) rfl rfl ?_
  refine lx_fak 12 rfl Tryd.underlying32 rfl Tryd.sizeOf30 (by decide) rfl rfl rfl ?_
  refine lx_loado 3 _ rfl rfl Tryd.isAgg30 Tryd.sizeOf30 (by simp) (ld_m (by simp)) rfl rfl ?_
  refine lx_fak 24 rfl Tryd.underlying32 rfl Tryd.sizeOf30 (by decide) rfl rfl rfl ?_
  refine lx_loado 3 _ rfl rfl Tryd.isAgg30 Tryd.sizeOf30 (by simp) (ld_rr (m := 12) (n := 12) (by simp) (by simp) rfl) rfl rfl ?_
  refine lx_call rfl rfl ent45 (e2add _ _) rfl rfl ?_
  refine lx_call rfl rfl ent44 (e2mul _ _) rfl rfl ?_
  refine lx_loada 6 rfl rfl Tryd.isAgg30 Tryd.sizeOf30 (by simp) rfl rfl ?_
  refine lx_call rfl rfl ent46 (e2sub _ _) rfl rfl ?_
  refine lx_loada 7 rfl rfl Tryd.isAgg30 Tryd.sizeOf30 (by simp) rfl rfl ?_
  refine lx_call rfl rfl ent46 (e2sub _ _) rfl rfl ?_
  refine lx_nil ?_
  refine ⟨_, _, rfl, hGF, by intro x hx; simp only [List.mem_cons, List.not_mem_nil, or_false] at hx; subst hx; rfl, by intro x hx; simp only [List.mem_cons, List.not_mem_nil, or_false] at hx; subst hx; rfl, fun adr => ?_⟩
  refine lx_storea 10 hGF rfl rfl rfl Tryd.sizeOf30 (by simp) (by simp) (one_u64 _) rfl ?_
  refine lx_nil ?_
  refine xs_drawn (E := EE []) mixed (by kernel_rfl) (by kernel_rfl) (by kernel_rfl) ?_
  refine lx_loada 5 rfl rfl Tryd.isAgg30 Tryd.sizeOf30 (by simp) rfl rfl ?_
  refine lx_loada 10 rfl rfl Tryd.isAgg30 Tryd.sizeOf30 (by simp) rfl rfl ?_
  refine lx_call rfl rfl ent47 (e2xi _) rfl rfl ?_
  refine lx_call rfl rfl ent45 (e2add _ _) rfl rfl ?_
  refine lx_loada 8 rfl rfl Tryd.isAgg30 Tryd.sizeOf30 (by simp) rfl rfl ?_
  refine lx_loada 7 rfl rfl Tryd.isAgg30 Tryd.sizeOf30 (by simp) rfl rfl ?_
  refine lx_call rfl rfl ent47 (e2xi _) rfl rfl ?_
  refine lx_call rfl rfl ent45 (e2add _ _) rfl rfl ?_
  refine lx_loada 9 rfl rfl Tryd.isAgg30 Tryd.sizeOf30 (by simp) rfl rfl ?_
  refine lx_loada 6 rfl rfl Tryd.isAgg30 Tryd.sizeOf30 (by simp) rfl rfl ?_
  refine lx_call rfl rfl ent45 (e2add _ _) rfl rfl ?_
  refine lx_three012 three32 rfl rfl rfl (by simp) (by simp) (by simp) rfl rfl ?_
  refine lx_storea 4 hGF rfl rfl rfl Tryd.sizeOf32 (by simp) (by simp) (one_u64 _) rfl ?_
  refine lx_nil ?_
  refine x_ret ?_
  repeat (first | refine kseq_ret ?_ | refine kblk_ret ?_)
  exact kret_own 4 rfl rfl rfl Tryd.isAgg32 Tryd.sizeOf32 (by simp) (fun w hw => ⟨e6 (Rg.same (R := R2) (ρ := ev R2 [x.1, x.2.1, x.2.2, y.1, y.2.1, y.2.2, XI]) (ta (tm (tv 0) (tv 3)) (txi 6 (tsb (tsb (tm (ta (tv 1) (tv 2)) (ta (tv 4) (tv 5))) (tm (tv 1) (tv 4))) (tm (tv 2) (tv 5))) rfl)) (ta (tm (tv 0) (tv 3)) (tm (tv 6) (ta (tm (tv 1) (tv 5)) (tm (tv 2) (tv 4))))) (by kernel_rfl)) (Rg.same (R := R2) (ρ := ev R2 [x.1, x.2.1, x.2.2, y.1, y.2.1, y.2.2, XI]) (ta (tsb (tsb (tm (ta (tv 0) (tv 1)) (ta (tv 3) (tv 4))) (tm (tv 0) (tv 3))) (tm (tv 1) (tv 4))) (txi 6 (tm (tv 2) (tv 5)) rfl)) (ta (ta (tm (tv 0) (tv 4)) (tm (tv 1) (tv 3))) (tm (tv 6) (tm (tv 2) (tv 5)))) (by kernel_rfl)) (Rg.same (R := R2) (ρ := ev R2 [x.1, x.2.1, x.2.2, y.1, y.2.1, y.2.2, XI]) (ta (tsb (tsb (tm (ta (tv 0) (tv 2)) (ta (tv 3) (tv 5))) (tm (tv 0) (tv 3))) (tm (tv 2) (tv 5))) (tm (tv 1) (tv 4))) (ta (ta (tm (tv 0) (tv 5)) (tm (tv 1) (tv 4))) (tm (tv 2) (tv 3))) (by kernel_rfl)), hp_below hw⟩)
theorem k6square (x : W6) : Pure Tryd.prog Gt 32 [EV6 x] (EV6 (K6.mul x x)) := by
  intro w hw
  have hGF : BOk Gt (pl w) := gt_low.plain hw
  refine calls_of_X (G := Gt) Tryd.func32 rfl rfl (Hp (pl w) []) (hp_refl (pl w) trivial rides_true) (good_hp hGF) ?_
  refine xs_plain (E := EE []) ?_
  refine lx_boxr 1 hGF rfl rfl rfl ?_
  intro b1
  refine lx_allocr 2 hGF zv32 rfl rfl ?_
  intro b2
  refine lx_nil ?_
  refine xs_drawA (E := EE [2999999]) [0, 1, 2, 3, 4, 5] [⟨6, 3, 30, (fe 0 ++ fe 0).map U64⟩, ⟨7, 4, 30, (fe 0 ++ fe 0).map U64⟩] [8, 9] mixed rfl (by kernel_rfl) (by kernel_rfl) (by kernel_rfl) (by kernel_rfl) (by kernel_rfl) (by kernel_rfl) (by decide) (by intro x hx; simp only [List.mem_cons, List.not_mem_nil, or_false] at hx; rcases hx with rfl | rfl <;> exact isAlloc_mk rfl zv30 rfl) ?_
  refine lx_fak 0 rfl Tryd.underlying32 rfl Tryd.sizeOf30 (by decide) rfl rfl rfl ?_
  refine lx_loado 1 _ rfl rfl Tryd.isAgg30 Tryd.sizeOf30 (by simp) ld_l rfl rfl ?_
  refine lx_call rfl rfl ent49 (e2square _) rfl rfl ?_
  refine lx_fak 24 rfl Tryd.underlying32 rfl Tryd.sizeOf30 (by decide) rfl rfl rfl ?_
  refine lx_loado 1 _ rfl rfl Tryd.isAgg30 Tryd.sizeOf30 (by simp) (ld_rr (m := 12) (n := 12) (by simp) (by simp) rfl) rfl rfl ?_
  refine lx_call rfl rfl ent49 (e2square _) rfl rfl ?_
  refine lx_nil ?_
  refine ⟨_, _, rfl, hGF, by intro x hx; simp only [List.mem_cons, List.not_mem_nil, or_false] at hx; rcases hx with rfl | rfl <;> rfl, by intro x hx; simp only [List.mem_cons, List.not_mem_nil, or_false] at hx; rcases hx with rfl | rfl <;> rfl, fun adr => ?_⟩
  refine lx_storea 3 hGF rfl rfl rfl Tryd.sizeOf30 (by simp) (by simp) (one_u64 _) rfl ?_
  refine lx_storea 4 hGF rfl rfl rfl Tryd.sizeOf30 (by simp) (by simp) (one_u64 _) rfl ?_
  refine lx_nil ?_
  refine xs_drawA (E := EE [2999999]) [0, 1, 2, 3, 4, 5, 6, 7, 8, 9] [⟨10, 5, 30, (fe 0 ++ fe 0).map U64⟩, ⟨11, 6, 30, (fe 0 ++ fe 0).map U64⟩] [12, 13] mixed rfl (by kernel_rfl) (by kernel_rfl) (by kernel_rfl) (by kernel_rfl) (by kernel_rfl) (by kernel_rfl) (by decide) (by intro x hx; simp only [List.mem_cons, List.not_mem_nil, or_false] at hx; rcases hx with rfl | rfl <;> exact isAlloc_mk rfl zv30 rfl) ?_
  refine lx_fak 0 rfl Tryd.underlying32 rfl Tryd.sizeOf30 (by decide) rfl rfl rfl ?_
  refine lx_loado 1 _ rfl rfl Tryd.isAgg30 Tryd.sizeOf30 (by simp) ld_l rfl rfl ?_
  refine lx_fak 12 rfl Tryd.underlying32 rfl Tryd.sizeOf30 (by decide) rfl rfl rfl ?_
  refine lx_loado 1 _ rfl rfl Tryd.isAgg30 Tryd.sizeOf30 (by simp) (ld_m (by simp)) rfl rfl ?_
  refine lx_call rfl rfl ent44 (e2mul _ _) rfl rfl ?_
  refine lx_fak 12 rfl Tryd.underlying32 rfl Tryd.sizeOf30 (by decide) rfl rfl rfl ?_
  refine lx_loado 1 _ rfl rfl Tryd.isAgg30 Tryd.sizeOf30 (by simp) (ld_m (by simp)) rfl rfl ?_
  refine lx_fak 24 rfl Tryd.underlying32 rfl Tryd.sizeOf30 (by decide) rfl rfl rfl ?_
  refine lx_loado 1 _ rfl rfl Tryd.isAgg30 Tryd.sizeOf30 (by simp) (ld_rr (m := 12) (n := 12) (by simp) (by simp) rfl) rfl rfl ?_
  refine lx_call rfl rfl ent44 (e2mul _ _) rfl rfl ?_
  refine lx_nil ?_
  refine ⟨_, _, rfl, hGF, by intro x hx; simp only [List.mem_cons, List.not_mem_nil, or_false] at hx; rcases hx with rfl | rfl <;> rfl, by intro x hx; simp only [List.mem_cons, List.not_mem_nil, or_false] at hx; rcases hx with rfl | rfl <;> rfl, fun adr => ?_⟩
  refine lx_storea 5 hGF rfl rfl rfl Tryd.sizeOf30 (by simp) (by simp) (one_u64 _) rfl ?_
  refine lx_storea 6 hGF rfl rfl rfl Tryd.sizeOf30 (by simp) (by simp) (one_u64 _) rfl ?_
  refine lx_nil ?_
  refine xs_drawn (E := EE []) mixed (by kernel_rfl) (by kernel_rfl) (by kernel_rfl) ?_
  refine lx_loada 5 rfl rfl Tryd.isAgg30 Tryd.sizeOf30 (by simp) rfl rfl ?_
  refine lx_loada 5 rfl rfl Tryd.isAgg30 Tryd.sizeOf30 (by simp) rfl rfl ?_
  refine lx_call rfl rfl ent45 (e2add _ _) rfl rfl ?_
  refine lx_loada 6 rfl rfl Tryd.isAgg30 Tryd.sizeOf30 (by simp) rfl rfl ?_
  refine lx_loada 6 rfl rfl Tryd.isAgg30 Tryd.sizeOf30 (by simp) rfl rfl ?_
  refine lx_call rfl rfl ent45 (e2add _ _) rfl rfl ?_
  refine lx_storea 5 hGF rfl rfl rfl Tryd.sizeOf30 (by simp) (by simp) (one_u64 _) rfl ?_
  refine lx_storea 6 hGF rfl rfl rfl Tryd.sizeOf30 (by simp) (by simp) (one_u64 _) rfl ?_
  refine lx_nil ?_
  refine xs_drawA (E := EE [2999999]) [0, 1, 2, 3, 4, 5, 6, 7, 8] [⟨9, 7, 30, (fe 0 ++ fe 0).map U64⟩] [10] mixed rfl (by kernel_rfl) (by kernel_rfl) (by kernel_rfl) (by kernel_rfl) (by kernel_rfl) (by kernel_rfl) (by decide) (by intro x hx; simp only [List.mem_cons, List.not_mem_nil, or_false] at hx; subst hx; exact isAlloc_mk rfl zv30 rfl) ?_
  refine lx_fak 0 rfl Tryd.underlying32 rfl Tryd.sizeOf30 (by decide) rfl rfl rfl ?_
  refine lx_loado 1 _ rfl rfl Tryd.isAgg30 Tryd.sizeOf30 (by simp) ld_l rfl rfl ?_
  refine lx_fak 12 rfl Tryd.underlying32 rfl Tryd.sizeOf30 (by decide) rfl rfl rfl ?_
  refine lx_loado 1 _ rfl rfl Tryd.isAgg30 Tryd.sizeOf30 (by simp) (ld_m (by simp)) rfl rfl ?_
  refine lx_call rfl rfl ent46 (e2sub _ _) rfl rfl ?_
  refine lx_fak 24 rfl Tryd.underlying32 rfl Tryd.sizeOf30 (by decide) rfl rfl rfl ?_
  refine lx_loado 1 _ rfl rfl Tryd.isAgg30 Tryd.sizeOf30 (by simp) (ld_rr (m := 12) (n := 12) (by simp) (by simp) rfl) rfl rfl ?_
  refine lx_call rfl rfl ent45 (e2add _ _) rfl rfl ?_
  refine lx_call rfl rfl ent49 (e2square _) rfl rfl ?_
  refine lx_nil ?_
  refine ⟨_, _, rfl, hGF, by intro x hx; simp only [List.mem_cons, List.not_mem_nil, or_false] at hx; subst hx; rfl, by intro x hx; simp only [List.mem_cons, List.not_mem_nil, or_false] at hx; subst hx; rfl, fun adr => ?_⟩
  refine lx_storea 7 hGF rfl rfl rfl Tryd.sizeOf30 (by simp) (by simp) (one_u64 _) rfl ?_
  refine lx_nil ?_
  refine xs_drawn (E := EE []) mixed (by kernel_rfl) (by kernel_rfl) (by kernel_rfl) ?_
  refine lx_loada 3 rfl rfl Tryd.isAgg30 Tryd.sizeOf30 (by simp) rfl rfl ?_
  refine lx_loada 6 rfl rfl Tryd.isAgg30 Tryd.sizeOf30 (by simp) rfl rfl ?_
  refine lx_call rfl rfl ent47 (e2xi _) rfl rfl ?_
  refine lx_call rfl rfl ent45 (e2add _ _) rfl rfl ?_
  refine lx_loada 5 rfl rfl Tryd.isAgg30 Tryd.sizeOf30 (by simp) rfl rfl ?_
  refine lx_loada 4 rfl rfl Tryd.isAgg30 Tryd.sizeOf30 (by simp) rfl rfl ?_
  refine lx_call rfl rfl ent47 (e2xi _) rfl rfl ?_
  refine lx_call rfl rfl ent45 (e2add _ _) rfl rfl ?_
  refine lx_loada 7 rfl rfl Tryd.isAgg30 Tryd.sizeOf30 (by simp) rfl rfl ?_
  refine lx_loada 5 rfl rfl Tryd.isAgg30 Tryd.sizeOf30 (by simp) rfl rfl ?_
  refine lx_call rfl rfl ent45 (e2add _ _) rfl rfl ?_
  refine lx_loada 6 rfl rfl Tryd.isAgg30 Tryd.sizeOf30 (by simp) rfl rfl ?_
  refine lx_call rfl rfl ent45 (e2add _ _) rfl rfl ?_
  refine lx_loada 3 rfl rfl Tryd.isAgg30 Tryd.sizeOf30 (by simp) rfl rfl ?_
  refine lx_call rfl rfl ent46 (e2sub _ _) rfl rfl ?_
  refine lx_loada 4 rfl rfl Tryd.isAgg30 Tryd.sizeOf30 (by simp) rfl rfl ?_
  refine lx_call rfl rfl ent46 (e2sub _ _) rfl rfl ?_
  refine lx_three012 three32 rfl rfl rfl (by simp) (by simp) (by simp) rfl rfl ?_
  refine lx_storea 2 hGF rfl rfl rfl Tryd.sizeOf32 (by simp) (by simp) (one_u64 _) rfl ?_
  refine lx_nil ?_
  refine x_ret ?_
  repeat (first | refine kseq_ret ?_ | refine kblk_ret ?_)
  exact kret_own 2 rfl rfl rfl Tryd.isAgg32 Tryd.sizeOf32 (by simp) (fun w hw => ⟨e6 (Rg.same (R := R2) (ρ := ev R2 [x.1, x.2.1, x.2.2, XI]) (ta (tm (tv 0) (tv 0)) (txi 3 (ta (tm (tv 1) (tv 2)) (tm (tv 1) (tv 2))) rfl)) (ta (tm (tv 0) (tv 0)) (tm (tv 3) (ta (tm (tv 1) (tv 2)) (tm (tv 2) (tv 1))))) (by kernel_rfl)) (Rg.same (R := R2) (ρ := ev R2 [x.1, x.2.1, x.2.2, XI]) (ta (ta (tm (tv 0) (tv 1)) (tm (tv 0) (tv 1))) (txi 3 (tm (tv 2) (tv 2)) rfl)) (ta (ta (tm (tv 0) (tv 1)) (tm (tv 1) (tv 0))) (tm (tv 3) (tm (tv 2) (tv 2)))) (by kernel_rfl)) (Rg.same (R := R2) (ρ := ev R2 [x.1, x.2.1, x.2.2, XI]) (tsb (tsb (ta (ta (tm (ta (tsb (tv 0) (tv 1)) (tv 2)) (ta (tsb (tv 0) (tv 1)) (tv 2))) (ta (tm (tv 0) (tv 1)) (tm (tv 0) (tv 1)))) (ta (tm (tv 1) (tv 2)) (tm (tv 1) (tv 2)))) (tm (tv 0) (tv 0))) (tm (tv 2) (tv 2))) (ta (ta (tm (tv 0) (tv 2)) (tm (tv 1) (tv 1))) (tm (tv 2) (tv 0))) (by kernel_rfl)), hp_below hw⟩)
theorem k6scale (x : W6) (c : W2) : Pure Tryd.prog Gt 51 [EV6 x, EV2 c] (EV6 (sc6 x c)) := by
  intro w hw
  have hGF : BOk Gt (pl w) := gt_low.plain hw
  refine calls_of_XM (G := Gt) Tryd.func51 rfl rfl (Hp (pl w) []) (hp_refl (pl w) trivial rides_true) (good_hp hGF) ?_
  refine xs_plain (E := EE [38]) ?_
  refine lx_boxr 2 hGF rfl rfl rfl ?_
  intro b2
  refine lx_boxr 3 hGF rfl rfl rfl ?_
  intro b3
  refine lx_allocr 4 hGF zv32 rfl rfl ?_
  intro b4
  refine lx_nil ?_
  refine xs_plain (E := EE [38]) ?_
  refine lx_allocr 5 hGF zv72 rfl rfl ?_
  intro b5
  refine lx_nil ?_
  refine x_seq ?_
  refine xs_plain (E := EE [38]) ?_
  refine lx_loada 2 rfl rfl Tryd.isAgg32 Tryd.sizeOf32 (by simp) rfl rfl ?_
  refine lx_callE rfl rfl ent38 rfl rfl (fun w' hw' => (k6parts_calls x w' (hGF.g _ _ _ hw')).mono fun e' w'' h => ?_)
  obtain ⟨c1, rfl, hg, h1, ho⟩ := h
  refine ⟨_, _, rfl, good_hp hGF, hw'.news rides_true hg [(33, c1, ((fe (x.1).1 ++ fe (x.1).2) ++ ((fe (x.2.1).1 ++ fe (x.2.1).2) ++ (fe (x.2.2).1 ++ fe (x.2.2).2))).map U64, 32)] ?_ inj_one, ?_⟩
  · intro n' b' c' t' hl
    rcases lkB_cons hl with ⟨_, e⟩ | ⟨_, hl⟩
    · cases e; exact ⟨h1, ho⟩
    · cases hl
  clear hw' hg h1 ho
  refine lx_nil ?_
  refine x_block ?_
  refine x_range (fun _ => pl w) (fun _ _ => pl w) (fun _ => hGF) (fun _ _ => hGF) (fun _ => rfl) (fun _ _ => rfl) rfl rfl ent57 (k6seq c1 x) (fun v hv => by obtain ⟨k, hk, rfl⟩ := List.mem_map.1 hv; rfl) rfl (fun k => [(2, b2, ((fe (x.1).1 ++ fe (x.1).2) ++ ((fe (x.2.1).1 ++ fe (x.2.1).2) ++ (fe (x.2.2).1 ++ fe (x.2.2).2))).map U64, 32), (3, b3, (fe c.1 ++ fe c.2).map U64, 30), (4, b4, ((fe 0 ++ fe 0) ++ ((fe 0 ++ fe 0) ++ (fe 0 ++ fe 0))).map U64, 32), (5, b5, (FM (FF (fun j => if j < k then ml2 (p3 x j) c else ze2)) 3).map U64, 72), (33, c1, ((fe (x.1).1 ++ fe (x.1).2) ++ ((fe (x.2.1).1 ++ fe (x.2.1).2) ++ (fe (x.2.2).1 ++ fe (x.2.2).2))).map U64, 32)]) (fun _ _ _ => False) ⟨rfl, rfl, rfl, congrArg (fun l => some (b5, l, _)) (congrArg (List.map U64) (FF_congr fun j _ => (if_neg (Nat.not_lt_zero j)).symm)), rfl, trivial⟩ (fun k _ w' h => hp_row (n := 33) rfl w' h) ?_ ?_ (fun _ _ _ _ _ h => h.elim)
  · intro k v hx R hR
    obtain ⟨hk, rfl⟩ := PS_at x k v hx
    refine xs_plain (E := EE [38]) ?_
    refine lx_assign rfl rfl rfl ?_
    refine lx_nil ?_
    refine x_plain (E := EE [38]) ?_
    refine lx_allocr 7 (hR (pl w) rfl hGF).1 zv30 rfl rfl ?_
    intro b7
    refine lx_storea 7 (hR (pl w) rfl hGF).1 rfl rfl rfl Tryd.sizeOf30 (by simp) (by simp) (one_u64 _) rfl ?_
    refine lx_nil ?_
    refine ⟨rfl, _, rfl, ?_⟩
    refine x_block ?_
    refine x_plain (E := EE [38]) ?_
    refine lx_move rfl rfl rfl ?_
    refine lx_loada 7 rfl rfl Tryd.isAgg30 Tryd.sizeOf30 (by simp) rfl rfl ?_
    refine lx_loada 3 rfl rfl Tryd.isAgg30 Tryd.sizeOf30 (by simp) rfl rfl ?_
    refine lx_call rfl rfl ent44 (e2mul _ _) rfl rfl ?_
    refine lx_iak (k) (12 * (k)) rfl rfl Tryd.underlying72 Tryd.sizeOf30 (by omega) (by omega) (by omega) rfl rfl ?_
    refine lx_storeo 5 ((FM (FF (fun j => if j < k + 1 then ml2 (p3 x j) c else ze2)) 3).map U64) (hR (pl w) rfl hGF).2.1 rfl rfl rfl Tryd.sizeOf30 (by simp) (one_u64 _) (by simp; omega) (FF_step _ _ (ml2 (p3 x k) c) 3 (k) _ (by omega) rfl (fun j _ => upd_lt (fun j => ml2 (p3 x j) c) (fun _ => ze2) k j)) rfl ?_
    refine lx_nil ?_
    repeat (refine kblk_n ?_)
    exact ⟨_, rfl, ⟨rfl, rfl, rfl, rfl, rfl, trivial⟩⟩
  · intro D hD
    rw [PS_len]
    refine xs_plain (E := EE [38]) ?_
    refine lx_loada 5 rfl rfl Tryd.isAgg72 Tryd.sizeOf72 (by simp) rfl rfl ?_
    refine lx_call rfl rfl ent65 (k6of _) rfl rfl ?_
    refine lx_storea 4 hD rfl rfl rfl Tryd.sizeOf32 (by simp) (by simp) (one_u64 _) rfl ?_
    refine lx_nil ?_
    refine x_ret ?_
    repeat (first | refine kseq_ret ?_ | refine kblk_ret ?_)
    exact kretM_1 (.inl rfl) rides_true (kret_own 4 rfl rfl rfl Tryd.isAgg32 Tryd.sizeOf32 (by simp) (fun w hw => ⟨e6 rfl rfl rfl, hp_below hw⟩))
theorem k6v (x : W6) : Pure Tryd.prog Gt 29 [EV6 x] (EV6 (v6 x)) := by
  intro w hw
  have hGF : BOk Gt (pl w) := gt_low.plain hw
  refine calls_of_X (G := Gt) Tryd.func29 rfl rfl (Hp (pl w) []) (hp_refl (pl w) trivial rides_true) (good_hp hGF) ?_
  refine xs_plain (E := EE []) ?_
  refine lx_boxr 1 hGF rfl rfl rfl ?_
  intro b1
  refine lx_allocr 2 hGF zv32 rfl rfl ?_
  intro b2
  refine lx_nil ?_
  refine xs_drawn (E := EE []) mixed (by kernel_rfl) (by kernel_rfl) (by kernel_rfl) ?_
  refine lx_fak 24 rfl Tryd.underlying32 rfl Tryd.sizeOf30 (by decide) rfl rfl rfl ?_
  refine lx_loado 1 _ rfl rfl Tryd.isAgg30 Tryd.sizeOf30 (by simp) (ld_rr (m := 12) (n := 12) (by simp) (by simp) rfl) rfl rfl ?_
  refine lx_call rfl rfl ent47 (e2xi _) rfl rfl ?_
  refine lx_fak 0 rfl Tryd.underlying32 rfl Tryd.sizeOf30 (by decide) rfl rfl rfl ?_
  refine lx_loado 1 _ rfl rfl Tryd.isAgg30 Tryd.sizeOf30 (by simp) ld_l rfl rfl ?_
  refine lx_fak 12 rfl Tryd.underlying32 rfl Tryd.sizeOf30 (by decide) rfl rfl rfl ?_
  refine lx_loado 1 _ rfl rfl Tryd.isAgg30 Tryd.sizeOf30 (by simp) (ld_m (by simp)) rfl rfl ?_
  refine lx_three012 three32 rfl rfl rfl (by simp) (by simp) (by simp) rfl rfl ?_
  refine lx_storea 2 hGF rfl rfl rfl Tryd.sizeOf32 (by simp) (by simp) (one_u64 _) rfl ?_
  refine lx_nil ?_
  refine x_ret ?_
  repeat (first | refine kseq_ret ?_ | refine kblk_ret ?_)
  exact kret_own 2 rfl rfl rfl Tryd.isAgg32 Tryd.sizeOf32 (by simp) (fun w hw => ⟨rfl, hp_below hw⟩)
def oth (x : W6) : W6 := (i3a x.1 x.2.1 x.2.2, i3b x.1 x.2.1 x.2.2, i3c x.1 x.2.1 x.2.2)
theorem k6others (x : W6) : Pure Tryd.prog Gt 50 [EV6 x] (EV6 (oth x)) := by
  intro w hw
  have hGF : BOk Gt (pl w) := gt_low.plain hw
  refine calls_of_X (G := Gt) Tryd.func50 rfl rfl (Hp (pl w) []) (hp_refl (pl w) trivial rides_true) (good_hp hGF) ?_
  refine xs_plain (E := EE []) ?_
  refine lx_boxr 1 hGF rfl rfl rfl ?_
  intro b1
  refine lx_allocr 2 hGF zv32 rfl rfl ?_
  intro b2
  refine lx_nil ?_
  refine xs_drawn (E := EE []) mixed (by kernel_rfl) (by kernel_rfl) (by kernel_rfl) ?_
  refine lx_fak 0 rfl Tryd.underlying32 rfl Tryd.sizeOf30 (by decide) rfl rfl rfl ?_
  refine lx_loado 1 _ rfl rfl Tryd.isAgg30 Tryd.sizeOf30 (by simp) ld_l rfl rfl ?_
  refine lx_call rfl rfl ent49 (e2square _) rfl rfl ?_
  refine lx_fak 12 rfl Tryd.underlying32 rfl Tryd.sizeOf30 (by decide) rfl rfl rfl ?_
  refine lx_loado 1 _ rfl rfl Tryd.isAgg30 Tryd.sizeOf30 (by simp) (ld_m (by simp)) rfl rfl ?_
  refine lx_fak 24 rfl Tryd.underlying32 rfl Tryd.sizeOf30 (by decide) rfl rfl rfl ?_
  refine lx_loado 1 _ rfl rfl Tryd.isAgg30 Tryd.sizeOf30 (by simp) (ld_rr (m := 12) (n := 12) (by simp) (by simp) rfl) rfl rfl ?_
  refine lx_call rfl rfl ent44 (e2mul _ _) rfl rfl ?_
  refine lx_call rfl rfl ent47 (e2xi _) rfl rfl ?_
  refine lx_call rfl rfl ent46 (e2sub _ _) rfl rfl ?_
  refine lx_fak 24 rfl Tryd.underlying32 rfl Tryd.sizeOf30 (by decide) rfl rfl rfl ?_
  refine lx_loado 1 _ rfl rfl Tryd.isAgg30 Tryd.sizeOf30 (by simp) (ld_rr (m := 12) (n := 12) (by simp) (by simp) rfl) rfl rfl ?_
  refine lx_call rfl rfl ent49 (e2square _) rfl rfl ?_
  refine lx_call rfl rfl ent47 (e2xi _) rfl rfl ?_
  refine lx_fak 0 rfl Tryd.underlying32 rfl Tryd.sizeOf30 (by decide) rfl rfl rfl ?_
  refine lx_loado 1 _ rfl rfl Tryd.isAgg30 Tryd.sizeOf30 (by simp) ld_l rfl rfl ?_
  refine lx_fak 12 rfl Tryd.underlying32 rfl Tryd.sizeOf30 (by decide) rfl rfl rfl ?_
  refine lx_loado 1 _ rfl rfl Tryd.isAgg30 Tryd.sizeOf30 (by simp) (ld_m (by simp)) rfl rfl ?_
  refine lx_call rfl rfl ent44 (e2mul _ _) rfl rfl ?_
  refine lx_call rfl rfl ent46 (e2sub _ _) rfl rfl ?_
  refine lx_fak 12 rfl Tryd.underlying32 rfl Tryd.sizeOf30 (by decide) rfl rfl rfl ?_
  refine lx_loado 1 _ rfl rfl Tryd.isAgg30 Tryd.sizeOf30 (by simp) (ld_m (by simp)) rfl rfl ?_
  refine lx_call rfl rfl ent49 (e2square _) rfl rfl ?_
  refine lx_fak 0 rfl Tryd.underlying32 rfl Tryd.sizeOf30 (by decide) rfl rfl rfl ?_
  refine lx_loado 1 _ rfl rfl Tryd.isAgg30 Tryd.sizeOf30 (by simp) ld_l rfl rfl ?_
  refine lx_fak 24 rfl Tryd.underlying32 rfl Tryd.sizeOf30 (by decide) rfl rfl rfl ?_
  refine lx_loado 1 _ rfl rfl Tryd.isAgg30 Tryd.sizeOf30 (by simp) (ld_rr (m := 12) (n := 12) (by simp) (by simp) rfl) rfl rfl ?_
  refine lx_call rfl rfl ent44 (e2mul _ _) rfl rfl ?_
  refine lx_call rfl rfl ent46 (e2sub _ _) rfl rfl ?_
  refine lx_three012 three32 rfl rfl rfl (by simp) (by simp) (by simp) rfl rfl ?_
  refine lx_storea 2 hGF rfl rfl rfl Tryd.sizeOf32 (by simp) (by simp) (one_u64 _) rfl ?_
  refine lx_nil ?_
  refine x_ret ?_
  repeat (first | refine kseq_ret ?_ | refine kblk_ret ?_)
  exact kret_own 2 rfl rfl rfl Tryd.isAgg32 Tryd.sizeOf32 (by simp) (fun w hw => ⟨rfl, hp_below hw⟩)
theorem oth_n (x : W6) : ad2 (xi2 (ad2 (ml2 x.2.1 (oth x).2.2) (ml2 x.2.2 (oth x).2.1))) (ml2 x.1 (oth x).1) = i3n x.1 x.2.1 x.2.2 := by
  show R2.add (xi2 (R2.add _ _)) _ = R2.add _ (xi2 (R2.add _ _))
  rw [R2.add_comm, R2.add_comm (ml2 x.2.1 (oth x).2.2)]
  rfl
theorem k6scaleO (x : W6) (c : W2) : Pure Tryd.prog Gt 51 [EV6 (oth x), EV2 c] (EV6 (sc6 (oth x) c)) := k6scale (oth x) c
theorem k6inv (x : W6) : Pure Tryd.prog Gt 33 [EV6 x] (EV6 (iv6 x)) := by
  intro w hw
  have hGF : BOk Gt (pl w) := gt_low.plain hw
  refine calls_of_X (G := Gt) Tryd.func33 rfl rfl (Hp (pl w) []) (hp_refl (pl w) trivial rides_true) (good_hp hGF) ?_
  refine xs_plain (E := EE []) ?_
  refine lx_boxr 1 hGF rfl rfl rfl ?_
  intro b1
  refine lx_allocr 2 hGF zv32 rfl rfl ?_
  intro b2
  refine lx_nil ?_
  refine xs_plain (E := EE []) ?_
  refine lx_loada 1 rfl rfl Tryd.isAgg32 Tryd.sizeOf32 (by simp) rfl rfl ?_
  refine lx_call rfl rfl ent50 (k6others _) rfl rfl ?_
  refine lx_allocr 3 hGF zv32 rfl rfl ?_
  intro b3
  refine lx_storea 3 hGF rfl rfl rfl Tryd.sizeOf32 (by simp) (by simp) (one_u64 _) rfl ?_
  refine lx_nil ?_
  refine xs_drawA (E := EE [2999999]) [0, 1, 2, 3, 4, 5, 6, 7, 8, 9, 10, 11, 12, 13, 14, 15, 16, 17] [⟨18, 4, 30, (fe 0 ++ fe 0).map U64⟩] [19] mixed rfl (by kernel_rfl) (by kernel_rfl) (by kernel_rfl) (by kernel_rfl) (by kernel_rfl) (by kernel_rfl) (by decide) (by intro x hx; simp only [List.mem_cons, List.not_mem_nil, or_false] at hx; subst hx; exact isAlloc_mk rfl zv30 rfl) ?_
  refine lx_fak 12 rfl Tryd.underlying32 rfl Tryd.sizeOf30 (by decide) rfl rfl rfl ?_
  refine lx_loado 1 _ rfl rfl Tryd.isAgg30 Tryd.sizeOf30 (by simp) (ld_m (by simp)) rfl rfl ?_
  refine lx_fak 24 rfl Tryd.underlying32 rfl Tryd.sizeOf30 (by decide) rfl rfl rfl ?_
  refine lx_loado 3 _ rfl rfl Tryd.isAgg30 Tryd.sizeOf30 (by simp) (ld_rr (m := 12) (n := 12) (by simp) (by simp) rfl) rfl rfl ?_
  refine lx_call rfl rfl ent44 (e2mul _ _) rfl rfl ?_
  refine lx_fak 24 rfl Tryd.underlying32 rfl Tryd.sizeOf30 (by decide) rfl rfl rfl ?_
  refine lx_loado 1 _ rfl rfl Tryd.isAgg30 Tryd.sizeOf30 (by simp) (ld_rr (m := 12) (n := 12) (by simp) (by simp) rfl) rfl rfl ?_
  refine lx_fak 12 rfl Tryd.underlying32 rfl Tryd.sizeOf30 (by decide) rfl rfl rfl ?_
  refine lx_loado 3 _ rfl rfl Tryd.isAgg30 Tryd.sizeOf30 (by simp) (ld_m (by simp)) rfl rfl ?_
  refine lx_call rfl rfl ent44 (e2mul _ _) rfl rfl ?_
  refine lx_call rfl rfl ent45 (e2add _ _) rfl rfl ?_
  refine lx_call rfl rfl ent47 (e2xi _) rfl rfl ?_
  refine lx_fak 0 rfl Tryd.underlying32 rfl Tryd.sizeOf30 (by decide) rfl rfl rfl ?_
  refine lx_loado 1 _ rfl rfl Tryd.isAgg30 Tryd.sizeOf30 (by simp) ld_l rfl rfl ?_
  refine lx_fak 0 rfl Tryd.underlying32 rfl Tryd.sizeOf30 (by decide) rfl rfl rfl ?_
  refine lx_loado 3 _ rfl rfl Tryd.isAgg30 Tryd.sizeOf30 (by simp) ld_l rfl rfl ?_
  refine lx_call rfl rfl ent44 (e2mul _ _) rfl rfl ?_
  refine lx_call rfl rfl ent45 (e2add _ _) rfl rfl ?_
  refine lx_nil ?_
  refine ⟨_, _, rfl, hGF, by intro x hx; simp only [List.mem_cons, List.not_mem_nil, or_false] at hx; subst hx; rfl, by intro x hx; simp only [List.mem_cons, List.not_mem_nil, or_false] at hx; subst hx; rfl, fun adr => ?_⟩
  refine lx_storea 4 hGF rfl rfl rfl Tryd.sizeOf30 (by simp) (by simp) (one_u64 _) rfl ?_
  refine lx_nil ?_
  refine xs_drawn (E := EE []) mixed (by kernel_rfl) (by kernel_rfl) (by kernel_rfl) ?_
  refine lx_loada 3 rfl rfl Tryd.isAgg32 Tryd.sizeOf32 (by simp) rfl rfl ?_
  refine lx_loada 4 rfl rfl Tryd.isAgg30 Tryd.sizeOf30 (by simp) rfl rfl ?_
  refine lx_call rfl rfl ent52 (e2inv _) rfl rfl ?_
  refine lx_call rfl rfl ent51 (k6scaleO x _) rfl rfl ?_
  refine lx_storea 2 hGF rfl rfl rfl Tryd.sizeOf32 (by simp) (by simp) (one_u64 _) rfl ?_
  refine lx_nil ?_
  refine x_ret ?_
  repeat (first | refine kseq_ret ?_ | refine kblk_ret ?_)
  exact kret_own 2 rfl rfl rfl Tryd.isAgg32 Tryd.sizeOf32 (by simp) (fun w hw => ⟨by rw [oth_n]; rfl, hp_below hw⟩)
end Go.Proofs.YtbpifgcbkhohbaaDoor
