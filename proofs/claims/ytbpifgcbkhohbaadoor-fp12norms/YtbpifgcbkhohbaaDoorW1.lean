/-
  Elements of fp12 as values; what the laws of layer 7 share.
-/
import Derived.Test.YtbpifgcbkhohbaaDoorXB
import Derived.Test.YtbpifgcbkhohbaaDoorX3
import Derived.Test.YtbpifgcbkhohbaaDoorX5
namespace Go.Proofs.YtbpifgcbkhohbaaDoor
open Go.RowKit
set_option maxRecDepth 100000
set_option maxHeartbeats 1000000
attribute [local simp] fe_len nm_len AS_len SS_len MONT_len RM_len FRs_len BYs_len by48_len PLl TWOl ONEl N1l IVPl HFPl RTPl FL_len SP_len fe2_len SP2_len FM_len FF_len
attribute [local simp] ff_len RW_len

theorem ent15 : Enters Tryd.prog 15 := fun _ _ => by kernel_rfl
theorem ent12 : Enters Tryd.prog 12 := fun _ _ => by kernel_rfl
theorem ent23 : Enters Tryd.prog 23 := fun _ _ => by kernel_rfl
theorem ent9 : Enters Tryd.prog 9 := fun _ _ => by kernel_rfl
theorem ent36 : Enters Tryd.prog 36 := fun _ _ => by kernel_rfl
theorem ent14 : Enters Tryd.prog 14 := fun _ _ => by kernel_rfl
theorem ent11 : Enters Tryd.prog 11 := fun _ _ => by kernel_rfl
theorem ent10 : Enters Tryd.prog 10 := fun _ _ => by kernel_rfl
theorem ent56 : Enters Tryd.prog 56 := fun _ _ => by kernel_rfl
theorem ent13 : Enters Tryd.prog 13 := fun _ _ => by kernel_rfl
theorem ent20 : Enters Tryd.prog 20 := fun _ _ => by kernel_rfl
theorem ent8 : Enters Tryd.prog 8 := fun _ _ => by kernel_rfl
/-- An element of fp12 as a value. -/
abbrev EV12 (x : W12) : Value := .agg ((((fe (x.1.1).1 ++ fe (x.1.1).2) ++ ((fe (x.1.2.1).1 ++ fe (x.1.2.1).2) ++ (fe (x.1.2.2).1 ++ fe (x.1.2.2).2))) ++ ((fe (x.2.1).1 ++ fe (x.2.1).2) ++ ((fe (x.2.2.1).1 ++ fe (x.2.2.1).2) ++ (fe (x.2.2.2).1 ++ fe (x.2.2.2).2)))).map U64).toArray
theorem zv34 (w : World) : (zeroValue 34).run Tryd.prog w = .ok (.agg ((((fe 0 ++ fe 0) ++ ((fe 0 ++ fe 0) ++ (fe 0 ++ fe 0))) ++ ((fe 0 ++ fe 0) ++ ((fe 0 ++ fe 0) ++ (fe 0 ++ fe 0)))).map U64).toArray) w := by rw [fe_0]; exact (Tryd.zeroValue34 w).trans (by rfl)
theorem two34 : Two Tryd.prog 34 ⟨ "C0", 32, 0, false, "", "", 0⟩ ⟨ "C1", 32, 36, false, "", "", 288⟩ 36 36 ((fe 0 ++ fe 0) ++ ((fe 0 ++ fe 0) ++ (fe 0 ++ fe 0))) ((fe 0 ++ fe 0) ++ ((fe 0 ++ fe 0) ++ (fe 0 ++ fe 0))) := ⟨Tryd.underlying34, rfl, rfl, Tryd.sizeOf32, Tryd.sizeOf32, zv34, by simp, by simp⟩
theorem e12 {a b a' b' : W6} (h1 : a = a') (h2 : b = b') : Ending.returned (EV12 (a, b)) = .returned (EV12 (a', b')) := by rw [h1, h2]
theorem e12x {x y : W12} (h : x = y) : Ending.returned (EV12 x) = .returned (EV12 y) := by rw [h]
theorem dec12_t {x y : W12} (h : x.1 = y.1) : decide (x.2 = y.2) = decide (x = y) := decide_eq_decide.2 ⟨fun e => Prod.ext h e, fun e => by rw [e]⟩
theorem dec12_f {x y : W12} (h : ¬ x.1 = y.1) : false = decide (x = y) := (decide_eq_false fun e => h (by rw [e])).symm
/-- The parts by the powers of w. -/
def p12 (x : W12) : Nat → W2
  | 0 => x.1.1
  | 1 => x.2.1
  | 2 => x.1.2.1
  | 3 => x.2.2.1
  | 4 => x.1.2.2
  | _ => x.2.2.2
theorem tq_p12 (x : W12) : tq (p12 x) = x := rfl
theorem refs12 (x : W12) : Pure Tryd.prog Gt 16 [EV12 x] (TV (p12 x)) := by
  intro w hw
  have hGF : BOk Gt (pl w) := gt_low.plain hw
  refine calls_of_X (G := Gt) Tryd.func16 rfl rfl (Hp (pl w) []) (hp_refl (pl w) trivial rides_true) (good_hp hGF) ?_
  refine xs_plain (E := EE []) ?_
  refine lx_boxr 1 hGF rfl rfl rfl ?_
  intro b1
  refine lx_allocr 2 hGF zv46 rfl rfl ?_
  intro b2
  refine lx_nil ?_
  refine xs_drawn (E := EE []) mixed (by kernel_rfl) (by kernel_rfl) (by kernel_rfl) ?_
  refine lx_fak 0 rfl Tryd.underlying34 rfl Tryd.sizeOf32 (by decide) rfl rfl rfl ?_
  refine lx_fak 0 rfl Tryd.underlying32 rfl Tryd.sizeOf30 (by decide) rfl rfl rfl ?_
  refine lx_loado 1 _ rfl rfl Tryd.isAgg30 Tryd.sizeOf30 (by simp) (ld_in ld_l) rfl rfl ?_
  refine lx_call rfl rfl ent35 (ref5 _) rfl rfl ?_
  refine lx_fak 36 rfl Tryd.underlying34 rfl Tryd.sizeOf32 (by decide) rfl rfl rfl ?_
  refine lx_fak 36 rfl Tryd.underlying32 rfl Tryd.sizeOf30 (by decide) rfl rfl rfl ?_
  refine lx_loado 1 _ rfl rfl Tryd.isAgg30 Tryd.sizeOf30 (by simp) (ld_out (m := 36) (o := 0) (by simp) rfl ld_l) rfl rfl ?_
  refine lx_call rfl rfl ent35 (ref5 _) rfl rfl ?_
  refine lx_fak 0 rfl Tryd.underlying34 rfl Tryd.sizeOf32 (by decide) rfl rfl rfl ?_
  refine lx_fak 12 rfl Tryd.underlying32 rfl Tryd.sizeOf30 (by decide) rfl rfl rfl ?_
  refine lx_loado 1 _ rfl rfl Tryd.isAgg30 Tryd.sizeOf30 (by simp) (ld_in (ld_m (by simp))) rfl rfl ?_
  refine lx_call rfl rfl ent35 (ref5 _) rfl rfl ?_
  refine lx_fak 36 rfl Tryd.underlying34 rfl Tryd.sizeOf32 (by decide) rfl rfl rfl ?_
  refine lx_fak 48 rfl Tryd.underlying32 rfl Tryd.sizeOf30 (by decide) rfl rfl rfl ?_
  refine lx_loado 1 _ rfl rfl Tryd.isAgg30 Tryd.sizeOf30 (by simp) (ld_out (m := 36) (o := 12) (by simp) rfl (ld_m (m := 12) (by simp))) rfl rfl ?_
  refine lx_call rfl rfl ent35 (ref5 _) rfl rfl ?_
  refine lx_fak 0 rfl Tryd.underlying34 rfl Tryd.sizeOf32 (by decide) rfl rfl rfl ?_
  refine lx_fak 24 rfl Tryd.underlying32 rfl Tryd.sizeOf30 (by decide) rfl rfl rfl ?_
  refine lx_loado 1 _ rfl rfl Tryd.isAgg30 Tryd.sizeOf30 (by simp) (ld_in (ld_rr (m := 12) (n := 12) (by simp) (by simp) rfl)) rfl rfl ?_
  refine lx_call rfl rfl ent35 (ref5 _) rfl rfl ?_
  refine lx_fak 36 rfl Tryd.underlying34 rfl Tryd.sizeOf32 (by decide) rfl rfl rfl ?_
  refine lx_fak 60 rfl Tryd.underlying32 rfl Tryd.sizeOf30 (by decide) rfl rfl rfl ?_
  refine lx_loado 1 _ rfl rfl Tryd.isAgg30 Tryd.sizeOf30 (by simp) (ld_out (m := 36) (o := 24) (by simp) rfl (ld_rr (m := 12) (n := 12) (by simp) (by simp) rfl)) rfl rfl ?_
  refine lx_call rfl rfl ent35 (ref5 _) rfl rfl ?_
  refine lx_rowsW (s := 12) (FF (p12 x)) (FF (p12 x)) [0, 1, 2, 3, 4, 5] rfl rfl rfl (fun i _ => fe2_len _) Tryd.underlying46 Tryd.sizeOf44 zv46 (fun i hi => updR_at _ _ _ _ (.inl (by match i, hi with | 0, _ => decide | 1, _ => decide | 2, _ => decide | 3, _ => decide | 4, _ => decide | 5, _ => decide))) rfl rfl ?_
  refine lx_storea 2 hGF rfl rfl rfl Tryd.sizeOf46 (by simp) (by simp) (one_u64 _) rfl ?_
  refine lx_nil ?_
  refine x_ret ?_
  repeat (first | refine kseq_ret ?_ | refine kblk_ret ?_)
  exact kret_own 2 rfl rfl rfl Tryd.isAgg46 Tryd.sizeOf46 (by simp) (fun w hw => ⟨rfl, hp_below hw⟩)
theorem six_cut (e : Option Addr) (cap : Nat) (bs : List (BitVec 8)) (l k len c' : Nat) (hk : len = k) (hl : l + k ≤ bs.length) (hc' : len ≤ c') (hcap : bs.length ≤ cap) (hlen : bs.length ≤ 1000) (w : World) (hw : Gt w) (hby : BytesAt w e bs) :
    Calls Tryd.prog 26 [.slice (if cap = l then e else e.map (·.add (l * 1))) len c'].toArray w (fun r w' => r = .returned (EV6 (SIX ((bs.drop l).take k))) ∧ Grow w w') := by
  subst hk
  have hL : ((bs.drop l).take len).length = len := by rw [List.length_take, List.length_drop]; omega
  have h := six_calls (if cap = l then e else e.map (·.add (l * 1))) c' ((bs.drop l).take len) (by omega) (by omega) w hw (hby.cut l len hcap)
  rw [hL] at h
  exact h
/-- The element of bytes. -/
def TWV (bs : List (BitVec 8)) : W12 := (SIX ((bs.drop 0).take (bs.length / 2)), SIX ((bs.drop (bs.length / 2)).take (bs.length - bs.length / 2)))
theorem twelve_calls (e : Option Addr) (cap : Nat) (bs : List (BitVec 8)) (hlen : bs.length ≤ 1000) (hcap : bs.length ≤ cap) (w : World) (hw : Gt w) (hby : BytesAt w e bs) :
    Calls Tryd.prog 8 [.slice e bs.length cap].toArray w (fun r w' => r = .returned (EV12 (TWV bs)) ∧ Grow w w') := by
  have hGF : BOk Gt (pl w) := gt_low.plain hw
  refine calls_of_X (G := Gt) Tryd.func8 rfl rfl (Hp (pl w) []) (hp_refl (pl w) trivial rides_true) (good_hp hGF) ?_
  refine xs_plain (E := EE []) ?_
  refine lx_allocr 2 hGF zv34 rfl rfl ?_
  intro b2
  refine lx_nil ?_
  refine xs_plain (E := EE []) ?_
  refine lx_move rfl rfl rfl ?_
  refine lx_len rfl (fun _ => len_slice Tryd.underlying22 _ _ _ _) rfl rfl ?_
  refine lx_bin (v := I ((bs.length / 2 : Nat) : Int)) rfl rfl (fun _ => rfl) (fun _ => bin_quo_i _ _ _ (by decide) (show inI ((bs.length / 2 : Nat) : Int) by unfold inI; omega)) rfl rfl ?_
  refine lx_assign rfl rfl rfl ?_
  refine lx_nil ?_
  refine xs_drawn (E := EE []) mixed (by kernel_rfl) (by kernel_rfl) (by kernel_rfl) ?_
  refine lx_move rfl rfl rfl ?_
  refine lx_move rfl rfl rfl ?_
  refine lx_slsl (l := 0) (h' := bs.length / 2) rfl Tryd.underlying22 Tryd.sizeOf5 rfl rfl (by omega) rfl rfl ?_
  refine lx_callC rfl rfl ent26 (fun w' hC hG => six_cut e cap bs (0) (bs.length / 2) _ _ rfl (by omega) (by omega) hcap hlen w' hG (hby.grow (hp_below hC))) rfl rfl ?_
  refine lx_move rfl rfl rfl ?_
  refine lx_move rfl rfl rfl ?_
  refine lx_slsl (l := bs.length / 2) (h' := bs.length) rfl Tryd.underlying22 Tryd.sizeOf5 rfl rfl (by omega) rfl rfl ?_
  refine lx_callC rfl rfl ent26 (fun w' hC hG => six_cut e cap bs (bs.length / 2) (bs.length - bs.length / 2) _ _ rfl (by omega) (by omega) hcap hlen w' hG (hby.grow (hp_below hC))) rfl rfl ?_
  refine lx_two two34 rfl rfl (by simp) (by simp) rfl rfl ?_
  refine lx_storea 2 hGF rfl rfl rfl Tryd.sizeOf34 (by simp) (by simp) (one_u64 _) rfl ?_
  refine lx_nil ?_
  refine x_ret ?_
  repeat (first | refine kseq_ret ?_ | refine kblk_ret ?_)
  exact kret_own 2 rfl rfl rfl Tryd.isAgg34 Tryd.sizeOf34 (by simp) (fun w hw => ⟨rfl, hp_below hw⟩)
end Go.Proofs.YtbpifgcbkhohbaaDoor
