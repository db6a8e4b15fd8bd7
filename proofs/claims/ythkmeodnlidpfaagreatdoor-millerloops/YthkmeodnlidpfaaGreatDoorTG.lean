/-
 The program's ways, of pairs: where the loop begins.
-/
import Derived.Test.YthkmeodnlidpfaaGreatDoorTE
import Derived.Test.YthkmeodnlidpfaaGreatDoorX3
import Derived.Test.YthkmeodnlidpfaaGreatDoorX5
namespace Go.Proofs.YthkmeodnlidpfaaGreatDoor
open Go.RowKit
set_option maxRecDepth 100000
set_option maxHeartbeats 1000000
attribute [local simp] fe_len nm_len AS_len SS_len MONT_len RM_len FRs_len BYs_len by48_len PLl TWOl ONEl N1l IVPl HFPl RTPl FL_len SP_len fe2_len SP2_len FM_len J1.GL_len J2.GL_len Q6.FF_len
theorem rTG {Q P : Prop} (k : Q) (h : Q → P := by intro k; (refine LY.run ?_); (repeat (first | refine y_move rfl rfl rfl ?_ | refine y_assign rfl rfl rfl ?_ | ((refine ra29 rfl rfl ?_ rfl rfl ?_); (· simp)) | ((refine ra27 rfl rfl ?_ rfl rfl ?_); (· simp)) | ((refine sa27 hGF rfl rfl rfl ?_ ?_ (one_u64 _) rfl ?_); (· simp); (· simp)) | ((refine sa29 hGF rfl rfl rfl ?_ ?_ (one_u64 _) rfl ?_); (· simp); (· simp)) | ((refine sa63 hGF rfl rfl rfl ?_ ?_ (one_u64 _) rfl ?_); (· simp); (· simp)) | refine y_ext rfl rfl rfl rfl ?_)); (first | refine y_nil ?_ | refine LY.mk ?_); exact k) : P := h k
theorem pTG {Q P : Prop} (k : Q) (h : Q → P := by intro k; (refine xp ?_); (refine rTG ?_); exact k) : P := h k

namespace Q6
def PRv (a : J1.GP × J2.GP) : List (BitVec 64) := J1.GL a.1 ++ J2.GL a.2
theorem PRv_len (a : J1.GP × J2.GP) : (PRv a).length = 54 := by simp [PRv]
attribute [local simp] PRv_len
theorem zv63 (w : World) : (zeroValue 63).run Tryz.prog w = .ok (.agg ((List.replicate 54 (0#64)).map U64).toArray) w := (Tryz.zeroValue63 w).trans (by rfl)
def WSf (f : Nat → J1.GP × J2.GP) : Nat → List WK
 | 0 => []
 | i + 1 => if (f i).1.P = none then WSf f i else if (f i).2.P = none then WSf f i else WSf f i ++ [wkB (J1.PX (f i).1.P, J1.PY (f i).1.P) (J2.PX (f i).2.P, J2.PY (f i).2.P)]
theorem WSf_p {f : Nat → J1.GP × J2.GP} {i : Nat} (h : (f i).1.P = none) : WSf f (i + 1) = WSf f i := if_pos h
theorem WSf_q {f : Nat → J1.GP × J2.GP} {i : Nat} (h : ¬ (f i).1.P = none) (k : (f i).2.P = none) : WSf f (i + 1) = WSf f i := (if_neg h).trans (if_pos k)
theorem WSf_y {f : Nat → J1.GP × J2.GP} {i : Nat} (h : ¬ (f i).1.P = none) (k : ¬ (f i).2.P = none) : WSf f (i + 1) = WSf f i ++ [wkB (J1.PX (f i).1.P, J1.PY (f i).1.P) (J2.PX (f i).2.P, J2.PY (f i).2.P)] := (if_neg h).trans (if_neg k)
theorem WSf_len (f : Nat → J1.GP × J2.GP) : ∀ i, (WSf f i).length ≤ i
 | 0 => Nat.le_refl _
 | i + 1 => by
  have h := WSf_len f i
  rw [WSf]
  split
  ·omega
  ·split
   ·omega
   ·rw [List.length_append]; simp; omega
def wcl (l : List WK) : List Value := clv (l.flatMap wrow)
theorem wrow_len (w : WK) : (wrow w).length = 12 := rfl
theorem wcl_app (l m : List WK) : wcl (l ++ m) = wcl l ++ wcl m := by rw [wcl, List.flatMap_append, clv_app]; rfl
theorem wcl_cons (w : WK) (l : List WK) : wcl (w :: l) = clv (wrow w) ++ wcl l := by rw [wcl, List.flatMap_cons, clv_app]; rfl
theorem wcl_one (w : WK) : wcl [w] = clv (wrow w) := by rw [wcl_cons]; exact List.append_nil _
theorem wcl_len : ∀ l : List WK, (wcl l).length = 72 * l.length
 | [] => rfl
 | w :: l => by rw [wcl_cons, List.length_append, wcl_len l, clv_len, wrow_len, List.length_cons]; omega
theorem OwnW.of {L L' : Hl} {n : Nat} {e : TypeId} {s : Nat} {a0 : Option Addr} {cap nx : Nat} {xs : List Value} (h : OwnW L n e s a0 cap nx xs) (he : lkB L' n = lkB L n) : OwnW L' n e s a0 cap nx xs := by
 rcases h with h | ⟨b, c, h1, h2, h3⟩
 ·exact .inl h
 ·exact .inr ⟨b, c, h1, he.trans h2, h3⟩
theorem bld_wk (a b : Zp) (c d e f g : W2) (w : World) : (Instr.build 114 (([0, 1, 2, 3, 4, 5, 6]).zip [EV a, EV b, EV2 c, EV2 d, EV2 e, EV2 f, EV2 g]).toArray).run Tryz.prog w = .ok (.agg (clv [a, b, c.1, c.2, d.1, d.2, e.1, e.2, f.1, f.2, g.1, g.2]).toArray) w := by
 obtain ⟨fields, hf, hm, _⟩ := TB.hfs 114 [(0, 1), (1, 1), (2, 2), (4, 2), (6, 2), (8, 2), (10, 2)] (by kernel_rfl)
 exact run_buildP (TB.hsz 114 12 (by kernel_rfl)).2.2 hf hm _ (fillS_eq (ps := [(0, [a]), (1, [b]), (2, [c.1, c.2]), (3, [d.1, d.2]), (4, [e.1, e.2]), (5, [f.1, f.2]), (6, [g.1, g.2])]) (c := List.replicate 12 0) (by rfl)) w
theorem tiW : TI Tryz.prog 114 (.agg (clv (List.replicate 12 0)).toArray) 72 576 := ti_mk (by rw [clv, cel_zero]; kernel_rfl)
theorem own_at {own L : Hl} (ho : own = [] ∨ ∃ x, own = [(50, x)]) (h : lkB L 50 = lkB own 50) : SubB L own := by
 rcases ho with rfl | ⟨x, rfl⟩
 ·exact trivial
 ·exact ⟨h, trivial⟩
structure BgV (f : Nat → J1.GP × J2.GP) (n : Nat) where
 (k : Nat) (a0 : Option Addr) (cap : Nat) (own : Hl)
 hk : k ≤ n
 hs : OwnW own 50 114 72 a0 cap (WSf f k).length (wcl (WSf f k))
 ho : own = [] ∨ ∃ x, own = [(50, x)]
 hz : WSf f k = [] → a0 = none
theorem gt_size {w : World} (h : Gt w) : 3 ≤ w.heap.size := block_lt_of_cell (h.g2 0 _ (by rfl))
theorem begin_c (n : Nat) (f : Nat → J1.GP × J2.GP) (b cap : Nat) (hn : n ≤ 1000) (w : World) (hw : Gt w) (h : w.rangeAt b 0 ((RW 54 (fun i => PRv (f i)) n).map U64)) :
  Calls Tryz.prog 65 [.slice (some ⟨b, 0, none⟩) n cap].toArray w (fun e w' => (∃ bW cW capW, e = .returned (.slice (some ⟨bW, 0, none⟩) (WSf f n).length capW) ∧ Grow w w' ∧ w.heap.size ≤ bW ∧ OwnB w' bW cW 114 ∧ cW.take (wcl (WSf f n)).length = wcl (WSf f n) ∧ WSf f n ≠ []) ∨ (WSf f n = [] ∧ e = .returned (.slice none 0 0) ∧ Grow w w')) := by
 have hGF : BOk Gt (pl w) := gt_low.plain hw
 have fin : ∀ {L : Hl} {a0 : Option Addr} {cap : Nat} {w' : World}, OwnW L 50 114 72 a0 cap (WSf f n).length (wcl (WSf f n)) → (WSf f n = [] → a0 = none) → Hp (pl w) L w' → (∃ bW cW capW, Ending.returned (.slice a0 (WSf f n).length cap) = .returned (.slice (some ⟨bW, 0, none⟩) (WSf f n).length capW) ∧ Grow w w' ∧ w.heap.size ≤ bW ∧ OwnB w' bW cW 114 ∧ cW.take (wcl (WSf f n)).length = wcl (WSf f n) ∧ WSf f n ≠ []) ∨ (WSf f n = [] ∧ Ending.returned (.slice a0 (WSf f n).length cap) = .returned (.slice none 0 0) ∧ Grow w w') := fun {L a0 cap w'} h hz hp => by
  rcases h with ⟨rfl, _, h3, rfl⟩ | ⟨b, c, rfl, hl, hc, hle, hx, ht⟩
  ·exact .inr ⟨List.length_eq_zero_iff.1 h3, by rw [h3], hp_below hp⟩
  ·exact .inl ⟨b, c, cap, rfl, hp_below hp, (hp.own _ _ _ _ hl).2.elim id False.elim, (hp.own _ _ _ _ hl).1, ht, fun e => by cases hz e⟩
 refine calls_of_X (G := Gt) Tryz.func65 rfl rfl (Hp (pl w) []) (hp_refl (pl w) trivial rides_true) (good_hp hGF) ?_
 refine pTG ?_
 refine x_scope ?_
 refine pTG ?_
 refine x_seq ?_
 refine x_label ?_
 refine x_seq ?_
 refine pTG ?_
 refine lx_len rfl (fun _ => len_slice Tryz.underlying64 _ _ _ _) rfl rfl ?_
 refine rTG ?_
 refine x_block ?_
 refine x_for (ι := BgV f n) (fun x => [(11, .slice (some ⟨b, 0, none⟩) n cap), (12, I (n : Int)), (13, I (x.k : Int)), (3, .slice x.a0 (WSf f x.k).length x.cap)]) (fun x => x.own) (fun x => n - x.k) ⟨0, none, 0, [], by omega, ownW_nil _ _ _ _, .inl rfl, fun _ => rfl⟩ hGF ⟨rfl, rfl, rfl, rfl, trivial⟩ trivial ?_
 rintro ⟨i, a0, cap0, own, hi, hs, ho, hz⟩
 dsimp only at hs ho hz ⊢
 have hwl := WSf_len f i
 by_cases hP : (f i).1.P = none
 ·skip
  refine xp ?_
  refine lx_bin rfl rfl (fun _ => rfl) (fun _ => bin_lss_i _ _ _) rfl rfl ?_
  refine lx_nil ?_
  refine x_seq ?_
  refine x_if rfl (fun hc => ?_) (fun hc => ?_)
  ·have hi2 : i < n := by simp at hc; omega
   refine x_skip ?_
   refine x_seq ?_
   refine x_block ?_
   refine xp ?_
   refine lx_isW (s := 54) i rfl rfl Tryz.underlying64 Tryz.sizeOf63 (by omega) (by omega) rfl rfl ?_
   refine lx_loadr (cs := (PRv (f i)).map U64) rfl Tryz.isAgg63 Tryz.sizeOf63 (by simp) (fun w' h' => range_row (hp_oldrange h (fun h => h) w' h') (by omega) (PRv_len _)) rfl rfl ?_
   refine la zv63 fun b5 => ?_
   refine rTG ?_
   refine xp ?_
   refine lx_fak 0 rfl Tryz.underlying63 rfl Tryz.sizeOf58 (by decide) rfl rfl rfl ?_
   refine lx_loado 5 ((J1.GL (f i).1).map U64) rfl rfl Tryz.isAgg58 Tryz.sizeOf58 (by simp) ld_l rfl rfl ?_
   refine lc ent76 (J1.xy_n _ hP) ?_
   refine rTG ?_
   refine la zv27 fun b6 => ?_
   refine la zv27 fun b7 => ?_
   refine rTG ?_
   refine x_seq ?_
   refine pTG ?_
   refine lx_un rfl (fun _ => un_not _) rfl rfl ?_
   refine lx_nil ?_
   refine x_true rfl ?_
   refine x_exit ?_
   refine x_plain (E := EE []) ?_
   refine lx_bin rfl rfl (fun _ => rfl) (fun _ => bin_add_i _ _ _ (by unfold inI; omega)) rfl rfl ?_
   refine rTG ?_
   repeat (first | refine kblk_n ?_ | refine kblk_x ?_)
   refine kseq_n ?_
   exact ⟨rfl, ⟨i + 1, a0, cap0, own, by omega, by rw [WSf_p hP]; exact hs, ho, by rw [WSf_p hP]; exact hz⟩, _, by show n - (i + 1) < n - i; omega, rfl, ⟨rfl, rfl, rfl, by dsimp only; rw [WSf_p hP]; rfl, trivial⟩, own_at ho rfl⟩
  ·obtain rfl : i = n := by simp at hc; omega
   refine x_exit ?_
   refine pTG ?_
   refine x_ret ?_
   repeat (first | refine kseq_ret ?_ | refine kblk_ret ?_ | refine kng_ret ?_)
   exact kret_tmp rfl rfl (fun w' hw' => fin hs hz hw')
 ·by_cases hQ : (f i).2.P = none
  ·skip
   refine xp ?_
   refine lx_bin rfl rfl (fun _ => rfl) (fun _ => bin_lss_i _ _ _) rfl rfl ?_
   refine lx_nil ?_
   refine x_seq ?_
   refine x_if rfl (fun hc => ?_) (fun hc => ?_)
   ·have hi2 : i < n := by simp at hc; omega
    refine x_skip ?_
    refine x_seq ?_
    refine x_block ?_
    refine xp ?_
    refine lx_isW (s := 54) i rfl rfl Tryz.underlying64 Tryz.sizeOf63 (by omega) (by omega) rfl rfl ?_
    refine lx_loadr (cs := (PRv (f i)).map U64) rfl Tryz.isAgg63 Tryz.sizeOf63 (by simp) (fun w' h' => range_row (hp_oldrange h (fun h => h) w' h') (by omega) (PRv_len _)) rfl rfl ?_
    refine la zv63 fun b5 => ?_
    refine rTG ?_
    refine xp ?_
    refine lx_fak 0 rfl Tryz.underlying63 rfl Tryz.sizeOf58 (by decide) rfl rfl rfl ?_
    refine lx_loado 5 ((J1.GL (f i).1).map U64) rfl rfl Tryz.isAgg58 Tryz.sizeOf58 (by simp) ld_l rfl rfl ?_
    refine lc ent76 (J1.xy_s _ hP) ?_
    refine rTG ?_
    refine la zv27 fun b6 => ?_
    refine la zv27 fun b7 => ?_
    refine rTG ?_
    refine x_seq ?_
    refine pTG ?_
    refine lx_un rfl (fun _ => un_not _) rfl rfl ?_
    refine lx_nil ?_
    refine x_false rfl ?_
    refine x_skip ?_
    refine xp ?_
    refine lx_fak 18 rfl Tryz.underlying63 rfl Tryz.sizeOf31 (by decide) rfl rfl rfl ?_
    refine lx_loado 5 ((J2.GL (f i).2).map U64) rfl rfl Tryz.isAgg31 Tryz.sizeOf31 (by simp) (ld_r (by simp)) rfl rfl ?_
    refine lc ent38 (J2.xy_n _ hQ) ?_
    refine rTG ?_
    refine la zv29 fun b9 => ?_
    refine la zv29 fun b10 => ?_
    refine rTG ?_
    refine x_seq ?_
    refine pTG ?_
    refine lx_un rfl (fun _ => un_not _) rfl rfl ?_
    refine lx_nil ?_
    refine x_true rfl ?_
    refine x_exit ?_
    refine x_plain (E := EE []) ?_
    refine lx_bin rfl rfl (fun _ => rfl) (fun _ => bin_add_i _ _ _ (by unfold inI; omega)) rfl rfl ?_
    refine rTG ?_
    repeat (first | refine kblk_n ?_ | refine kblk_x ?_)
    refine kseq_n ?_
    exact ⟨rfl, ⟨i + 1, a0, cap0, own, by omega, by rw [WSf_q hP hQ]; exact hs, ho, by rw [WSf_q hP hQ]; exact hz⟩, _, by show n - (i + 1) < n - i; omega, rfl, ⟨rfl, rfl, rfl, by dsimp only; rw [WSf_q hP hQ]; rfl, trivial⟩, own_at ho rfl⟩
   ·obtain rfl : i = n := by simp at hc; omega
    refine x_exit ?_
    refine pTG ?_
    refine x_ret ?_
    repeat (first | refine kseq_ret ?_ | refine kblk_ret ?_ | refine kng_ret ?_)
    exact kret_tmp rfl rfl (fun w' hw' => fin hs hz hw')
  ·skip
   refine xp ?_
   refine lx_bin rfl rfl (fun _ => rfl) (fun _ => bin_lss_i _ _ _) rfl rfl ?_
   refine lx_nil ?_
   refine x_seq ?_
   refine x_if rfl (fun hc => ?_) (fun hc => ?_)
   ·have hi2 : i < n := by simp at hc; omega
    refine x_skip ?_
    refine x_seq ?_
    refine x_block ?_
    refine xp ?_
    refine lx_isW (s := 54) i rfl rfl Tryz.underlying64 Tryz.sizeOf63 (by omega) (by omega) rfl rfl ?_
    refine lx_loadr (cs := (PRv (f i)).map U64) rfl Tryz.isAgg63 Tryz.sizeOf63 (by simp) (fun w' h' => range_row (hp_oldrange h (fun h => h) w' h') (by omega) (PRv_len _)) rfl rfl ?_
    refine la zv63 fun b5 => ?_
    refine rTG ?_
    refine xp ?_
    refine lx_fak 0 rfl Tryz.underlying63 rfl Tryz.sizeOf58 (by decide) rfl rfl rfl ?_
    refine lx_loado 5 ((J1.GL (f i).1).map U64) rfl rfl Tryz.isAgg58 Tryz.sizeOf58 (by simp) ld_l rfl rfl ?_
    refine lc ent76 (J1.xy_s _ hP) ?_
    refine rTG ?_
    refine la zv27 fun b6 => ?_
    refine la zv27 fun b7 => ?_
    refine rTG ?_
    refine x_seq ?_
    refine pTG ?_
    refine lx_un rfl (fun _ => un_not _) rfl rfl ?_
    refine lx_nil ?_
    refine x_false rfl ?_
    refine x_skip ?_
    refine xp ?_
    refine lx_fak 18 rfl Tryz.underlying63 rfl Tryz.sizeOf31 (by decide) rfl rfl rfl ?_
    refine lx_loado 5 ((J2.GL (f i).2).map U64) rfl rfl Tryz.isAgg31 Tryz.sizeOf31 (by simp) (ld_r (by simp)) rfl rfl ?_
    refine lc ent38 (J2.xy_s _ hQ) ?_
    refine rTG ?_
    refine la zv29 fun b9 => ?_
    refine la zv29 fun b10 => ?_
    refine rTG ?_
    refine x_seq ?_
    refine pTG ?_
    refine lx_un rfl (fun _ => un_not _) rfl rfl ?_
    refine lx_nil ?_
    refine x_false rfl ?_
    refine x_skip ?_
    refine x_drawn (E := EE []) mixed (by kernel_rfl) (by kernel_rfl) (by kernel_rfl) ?_
    refine rTG ?_
    refine lc ent45 (e2one) ?_
    refine lx_build (ps := [(0, .tmp 36), (1, .tmp 37), (2, .tmp 38), (3, .tmp 39), (4, .tmp 40), (5, .tmp 41), (6, .tmp 42)]) (vs := [EV (J1.PX (f i).1.P), EV (J1.PY (f i).1.P), EV2 (J2.PX (f i).2.P), EV2 (J2.PY (f i).2.P), EV2 (J2.PX (f i).2.P), EV2 (J2.PY (f i).2.P), EV2 on2]) rfl (v := .agg (clv (wrow (wkB (J1.PX (f i).1.P, J1.PY (f i).1.P) (J2.PX (f i).2.P, J2.PY (f i).2.P)))).toArray) (fun w => bld_wk _ _ _ _ _ _ _ w) rfl rfl ?_
    refine lx_bslW1 44 (clv (wrow (wkB (J1.PX (f i).1.P, J1.PY (f i).1.P) (J2.PX (f i).2.P, J2.PY (f i).2.P)))) hGF rfl (by rw [clv_len, wrow_len]) (by decide) (by decide) Tryz.underlying111 Tryz.sizeOf114 (TB.hsz 114 12 (by kernel_rfl)).2.2 rfl rfl ?_
    intro b44
    refine lx_appendW (s := 72) (nx := (WSf f i).length) (ny := 1) (xs := wcl (WSf f i)) (ys := clv (wrow (wkB (J1.PX (f i).1.P, J1.PY (f i).1.P) (J2.PX (f i).2.P, J2.PY (f i).2.P)))) 50 hGF rfl rfl Tryz.underlying111 Tryz.underlying111 tiW rfl (OwnW.of hs rfl) (by rw [clv_len, wrow_len]) (fun w' h => hp_row (n := 44) rfl w' h) (clv_one _) (by decide) (by omega) (by omega) rfl rfl (fun bA cA capA eA lA tA => ?_)
    refine rTG ?_
    refine x_plain (E := EE []) ?_
    refine lx_bin rfl rfl (fun _ => rfl) (fun _ => bin_add_i _ _ _ (by unfold inI; omega)) rfl rfl ?_
    refine rTG ?_
    repeat (first | refine kblk_n ?_ | refine kblk_x ?_)
    refine kseq_n ?_
    have eW := WSf_y hP hQ
    have eL : (WSf f (i + 1)).length = (WSf f i).length + 1 := by rw [eW, List.length_append]; rfl
    have eC : wcl (WSf f (i + 1)) = wcl (WSf f i) ++ clv (wrow (wkB (J1.PX (f i).1.P, J1.PY (f i).1.P) (J2.PX (f i).2.P, J2.PY (f i).2.P))) := by rw [eW, wcl_app, wcl_one]
    exact ⟨rfl, ⟨i + 1, some ⟨bA, 0, none⟩, capA, [(50, bA, cA, 114)], by omega, .inr ⟨bA, cA, rfl, rfl, eA, by omega, by rw [wcl_len, Nat.mul_comm], by rw [eC]; exact tA⟩, .inr ⟨_, rfl⟩, fun e => by rw [e] at eL; cases eL⟩, _, by show n - (i + 1) < n - i; omega, rfl, ⟨rfl, rfl, rfl, by dsimp only; rw [eL]; rfl, trivial⟩, ⟨rfl, trivial⟩⟩
   ·obtain rfl : i = n := by simp at hc; omega
    refine x_exit ?_
    refine pTG ?_
    refine x_ret ?_
    repeat (first | refine kseq_ret ?_ | refine kblk_ret ?_ | refine kng_ret ?_)
    exact kret_tmp rfl rfl (fun w' hw' => fin hs hz hw')
end Q6
end Go.Proofs.YthkmeodnlidpfaaGreatDoor
