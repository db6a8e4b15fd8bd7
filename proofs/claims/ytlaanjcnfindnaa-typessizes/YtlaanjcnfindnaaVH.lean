/-
  The document's reader: the end; sizes.
-/
import Derived.Test.YtlaanjcnfindnaaVG
namespace Go.Proofs.Ytlaanjcnfindnaa
open Go.RowKit
set_option maxRecDepth 100000
set_option maxHeartbeats 1000000

def szN (n : Int) : Nat := min (max n.toNat 1) 512
theorem szN_le (n : Int) : 1 ≤ szN n ∧ szN n ≤ 512 := by unfold szN; omega
def sz1 (n : Nat) : Nat := 48 * n + 320
def sz2 (n : Nat) : Nat := 48 * n + szB n + 728
def sz3 (n : Nat) : Nat := szB n + 520
def sz4 (n : Nat) : Nat := szB n + 216
section
variable {P : Program} {F : Fr} {C : Cls}
theorem kret_t4 {fn : Func} {R : Ending → World → Prop} {t1 t2 t3 t4 : Nat} {v1 v2 v3 v4 : Value} (hr : fn.results = #[.tmp t1, .tmp t2, .tmp t3, .tmp t4]) (hv1 : lk F t1 = some v1) (hv2 : lk F t2 = some v2) (hv3 : lk F t3 = some v3) (hv4 : lk F t4 = some v4)
    (h : ∀ w, C w → R (.returned (.tuple #[v1, v2, v3, v4])) w) : Kret P fn R .ret [] F C :=
  ⟨rfl, fun a w ha hC => ⟨.tuple #[v1, v2, v3, v4], by simp [results, hr, ha.get t1 _ hv1, ha.get t2 _ hv2, ha.get t3 _ hv3, ha.get t4 _ hv4], h w hC⟩⟩
end
theorem siz_calls (n : Int) (w : World) (hw : Gt w) : Calls Try.prog 44 [I n].toArray w (fun e w' => e = .returned (I (szN n : Nat)) ∧ Grow w w') := by
  have hGF : BOk Gt (pl w) := gt_low.plain hw
  refine calls_of_X (G := Gt) Try.func44 rfl rfl (Hp (pl w) []) (hp_refl (pl w) trivial rides_true) (good_hp hGF) ?_
  refine xs_plain (E := EE []) ?_
  refine lx_assign rfl rfl rfl ?_
  refine lx_nil ?_
  refine xs_plain (E := EE []) ?_
  refine lx_move rfl rfl rfl ?_
  refine lx_max (z := ((max n.toNat 1 : Nat) : Int)) rfl rfl (by split <;> omega) rfl rfl ?_
  refine lx_min (z := ((szN n : Nat) : Int)) rfl rfl (by unfold szN; split <;> omega) rfl rfl ?_
  refine lx_assign rfl rfl rfl ?_
  refine lx_nil ?_
  refine x_ret ?_
  repeat (first | refine kseq_ret ?_ | refine kblk_ret ?_)
  exact kret_tmp rfl rfl (fun w' hw' => ⟨rfl, hp_below hw'⟩)
theorem szs_calls (n : Int) (w : World) (hw : Gt w) : Calls Try.prog 31 [I n].toArray w (fun e w' => e = .returned (.tuple #[I (sz1 (szN n) : Nat), I (sz2 (szN n) : Nat), I (sz3 (szN n) : Nat), I (sz4 (szN n) : Nat)]) ∧ Grow w w') := by
  have hGF : BOk Gt (pl w) := gt_low.plain hw
  refine calls_of_X (G := Gt) Try.func31 rfl rfl (Hp (pl w) []) (hp_refl (pl w) trivial rides_true) (good_hp hGF) ?_
  refine xs_plain (E := EE []) ?_
  refine lx_assign rfl rfl rfl ?_
  refine lx_assign rfl rfl rfl ?_
  refine lx_assign rfl rfl rfl ?_
  refine lx_assign rfl rfl rfl ?_
  refine lx_nil ?_
  refine xs_plain (E := EE []) ?_
  refine lx_move rfl rfl rfl ?_
  refine lx_callC rfl rfl ent44 (fun w1 _ hG => siz_calls n w1 hG) rfl rfl ?_
  obtain ⟨m, hm⟩ : ∃ m, szN n = m := ⟨_, rfl⟩
  have hm2 := szN_le n
  rw [hm] at hm2 ⊢
  refine lx_assign rfl rfl rfl ?_
  refine lx_nil ?_
  refine xs_plain (E := EE []) ?_
  refine lx_move rfl rfl rfl ?_
  refine lx_bin (v := I ((((48 * m) : Nat) : Int))) rfl rfl (fun _ => rfl) (fun _ => (bin_mul_i _ _ _ (by have : szB m ≤ 65 := (by unfold szB; omega); unfold inI; omega)).trans (by rfl)) rfl rfl ?_
  refine lx_bin (v := I (((((48 * m) + 48) : Nat) : Int))) rfl rfl (fun _ => rfl) (fun _ => (bin_add_i _ _ _ (by have : szB m ≤ 65 := (by unfold szB; omega); unfold inI; omega)).trans (by rfl)) rfl rfl ?_
  refine lx_move rfl rfl rfl ?_
  refine lx_bin (v := I ((((m + 7) : Nat) : Int))) rfl rfl (fun _ => rfl) (fun _ => (bin_add_i _ _ _ (by have : szB m ≤ 65 := (by unfold szB; omega); unfold inI; omega)).trans (by rfl)) rfl rfl ?_
  refine lx_bin (v := I (((szB m : Nat) : Int))) rfl rfl (fun _ => rfl) (fun _ => (bin_quo_i _ _ _ (by omega) (by unfold inI; rw [Int.tdiv_eq_ediv_of_nonneg (by omega)]; omega)).trans (by rw [Int.tdiv_eq_ediv_of_nonneg (by omega)]; rfl)) rfl rfl ?_
  refine lx_bin (v := I ((((szB m + 96) : Nat) : Int))) rfl rfl (fun _ => rfl) (fun _ => (bin_add_i _ _ _ (by have : szB m ≤ 65 := (by unfold szB; omega); unfold inI; omega)).trans (by rfl)) rfl rfl ?_
  refine lx_assign rfl rfl rfl ?_
  refine lx_assign rfl rfl rfl ?_
  refine lx_nil ?_
  refine xs_plain (E := EE []) ?_
  refine lx_move rfl rfl rfl ?_
  refine lx_bin (v := I ((((112 + ((48 * m) + 48)) : Nat) : Int))) rfl rfl (fun _ => rfl) (fun _ => (bin_add_i _ _ _ (by have : szB m ≤ 65 := (by unfold szB; omega); unfold inI; omega)).trans (by rfl)) rfl rfl ?_
  refine lx_bin (v := I (((((112 + ((48 * m) + 48)) + 160) : Nat) : Int))) rfl rfl (fun _ => rfl) (fun _ => (bin_add_i _ _ _ (by have : szB m ≤ 65 := (by unfold szB; omega); unfold inI; omega)).trans (by rfl)) rfl rfl ?_
  refine lx_move rfl rfl rfl ?_
  refine lx_bin (v := I ((((112 + ((48 * m) + 48)) : Nat) : Int))) rfl rfl (fun _ => rfl) (fun _ => (bin_add_i _ _ _ (by have : szB m ≤ 65 := (by unfold szB; omega); unfold inI; omega)).trans (by rfl)) rfl rfl ?_
  refine lx_bin (v := I (((((112 + ((48 * m) + 48)) + 160) : Nat) : Int))) rfl rfl (fun _ => rfl) (fun _ => (bin_add_i _ _ _ (by have : szB m ≤ 65 := (by unfold szB; omega); unfold inI; omega)).trans (by rfl)) rfl rfl ?_
  refine lx_bin (v := I ((((((112 + ((48 * m) + 48)) + 160) + 112) : Nat) : Int))) rfl rfl (fun _ => rfl) (fun _ => (bin_add_i _ _ _ (by have : szB m ≤ 65 := (by unfold szB; omega); unfold inI; omega)).trans (by rfl)) rfl rfl ?_
  refine lx_bin (v := I (((((((112 + ((48 * m) + 48)) + 160) + 112) + 192) : Nat) : Int))) rfl rfl (fun _ => rfl) (fun _ => (bin_add_i _ _ _ (by have : szB m ≤ 65 := (by unfold szB; omega); unfold inI; omega)).trans (by rfl)) rfl rfl ?_
  refine lx_move rfl rfl rfl ?_
  refine lx_bin (v := I ((((((((112 + ((48 * m) + 48)) + 160) + 112) + 192) + (szB m + 96)) : Nat) : Int))) rfl rfl (fun _ => rfl) (fun _ => (bin_add_i _ _ _ (by have : szB m ≤ 65 := (by unfold szB; omega); unfold inI; omega)).trans (by rfl)) rfl rfl ?_
  refine lx_bin (v := I (((((((((112 + ((48 * m) + 48)) + 160) + 112) + 192) + (szB m + 96)) + 8) : Nat) : Int))) rfl rfl (fun _ => rfl) (fun _ => (bin_add_i _ _ _ (by have : szB m ≤ 65 := (by unfold szB; omega); unfold inI; omega)).trans (by rfl)) rfl rfl ?_
  refine lx_move rfl rfl rfl ?_
  refine lx_bin (v := I ((((416 + (szB m + 96)) : Nat) : Int))) rfl rfl (fun _ => rfl) (fun _ => (bin_add_i _ _ _ (by have : szB m ≤ 65 := (by unfold szB; omega); unfold inI; omega)).trans (by rfl)) rfl rfl ?_
  refine lx_bin (v := I (((((416 + (szB m + 96)) + 8) : Nat) : Int))) rfl rfl (fun _ => rfl) (fun _ => (bin_add_i _ _ _ (by have : szB m ≤ 65 := (by unfold szB; omega); unfold inI; omega)).trans (by rfl)) rfl rfl ?_
  refine lx_move rfl rfl rfl ?_
  refine lx_bin (v := I ((((112 + (szB m + 96)) : Nat) : Int))) rfl rfl (fun _ => rfl) (fun _ => (bin_add_i _ _ _ (by have : szB m ≤ 65 := (by unfold szB; omega); unfold inI; omega)).trans (by rfl)) rfl rfl ?_
  refine lx_bin (v := I (((((112 + (szB m + 96)) + 8) : Nat) : Int))) rfl rfl (fun _ => rfl) (fun _ => (bin_add_i _ _ _ (by have : szB m ≤ 65 := (by unfold szB; omega); unfold inI; omega)).trans (by rfl)) rfl rfl ?_
  refine lx_assign rfl rfl rfl ?_
  refine lx_assign rfl rfl rfl ?_
  refine lx_assign rfl rfl rfl ?_
  refine lx_assign rfl rfl rfl ?_
  refine lx_nil ?_
  refine x_ret ?_
  repeat (first | refine kseq_ret ?_ | refine kblk_ret ?_)
  exact kret_t4 rfl rfl rfl rfl rfl (fun w' hw' => ⟨by rw [show sz1 m = ((112 + ((48 * m) + 48)) + 160) from by unfold sz1; omega, show sz2 m = ((((((112 + ((48 * m) + 48)) + 160) + 112) + 192) + (szB m + 96)) + 8) from by unfold sz2; omega, show sz3 m = ((416 + (szB m + 96)) + 8) from by unfold sz3; omega, show sz4 m = ((112 + (szB m + 96)) + 8) from by unfold sz4; omega], hp_below hw'⟩)
end Go.Proofs.Ytlaanjcnfindnaa
