/-
  The program's points by elements of r.
-/
import Derived.Test.YtfknmeefbccflaaGreatDoorF3
import Derived.Test.YtfknmeefbccflaaGreatDoorF2
namespace Go.Proofs.YtfknmeefbccflaaGreatDoor
open Go.RowKit
set_option maxRecDepth 100000
set_option maxHeartbeats 1000000
attribute [local simp] fe_len nm_len AS_len SS_len MONT_len RM_len FRs_len BYs_len by48_len PLl TWOl ONEl N1l IVPl HFPl RTPl FL_len SP_len fe2_len SP2_len FM_len GL_len
attribute [local simp] nr_len by32_len

theorem qbits_calls (k : Zr) (w : World) (hw : Gt w) : Calls Tryz.prog 83 [RV k].toArray w (fun e w' => ∃ b1, e = .returned (.func (.func 148) #[] #[.pointer (some ⟨b1, 0, none⟩)]) ∧ Grow w w' ∧ w.heap.size ≤ b1 ∧ OwnB w' b1 ((nr k).map U64) 26) := by
  have hGF : BOk Gt (pl w) := gt_low.plain hw
  refine calls_of_X (G := Gt) Tryz.func83 rfl rfl (Hp (pl w) []) (hp_refl (pl w) trivial rides_true) (good_hp hGF) ?_
  refine xs_plain (E := EE [130]) ?_
  refine lx_boxr 1 hGF rfl rfl rfl ?_
  intro b1
  refine lx_assign rfl rfl rfl ?_
  refine lx_nil ?_
  refine xs_plain (E := EE [130]) ?_
  refine lx_fak 0 rfl Tryz.underlying70 rfl Tryz.sizeOf26 (by decide) rfl rfl rfl ?_
  refine lx_loada 1 rfl rfl Tryz.isAgg26 Tryz.sizeOf26 (by simp) rfl rfl ?_
  refine lx_callE rfl rfl ent130 rfl rfl (fun w' hw' => (bits_calls (nr k) (by simp) w' (hGF.g _ _ _ hw')).mono fun e' w'' h => ?_)
  obtain ⟨c1, rfl, hg, h1, ho⟩ := h
  refine ⟨_, _, rfl, good_hp hGF, hw'.news rides_true hg [(33, c1, (nr k).map U64, 26)] ?_ inj_one, ?_⟩
  · intro n' b' c' t' hl
    rcases lkB_cons hl with ⟨_, e⟩ | ⟨_, hl⟩
    · cases e; exact ⟨h1, ho⟩
    · cases hl
  clear hw' hg h1 ho
  refine lx_assign rfl rfl rfl ?_
  refine lx_nil ?_
  refine x_ret ?_
  repeat (first | refine kseq_ret ?_ | refine kblk_ret ?_)
  exact kret_tmp rfl rfl (fun w hw => ⟨c1, rfl, hp_below hw, (hw.own 33 c1 _ _ rfl).2.elim id False.elim, (hw.own 33 c1 _ _ rfl).1⟩)
def dg (a : List (BitVec 64)) (m : Nat) : Bool := decide (dig a (383 - m) = 1)
theorem ones_oL (a : List (BitVec 64)) : ∀ m, ones a m = oL (dg a) 384 m
  | 0 => rfl
  | m + 1 => by
    rw [ones, oL, ones_oL a m]
    by_cases h : dig a (383 - m) = 1
    · rw [if_pos h, if_pos (show dg a m = true from decide_eq_true h)]
    · rw [if_neg h, if_neg (show ¬ dg a m = true from fun e => h (of_decide_eq_true e))]
theorem dg_iff (a : List (BitVec 64)) (m : Nat) (hm : m < 384) : dg a m = true ↔ V a 6 / 2 ^ (384 - 1 - m) % 2 = 1 := by
  have e := dig_val a 6 (383 - m) (by omega)
  rw [show 384 - 1 - m = 383 - m from by omega, ← e]
  constructor
  · intro h
    have h2 : dig a (383 - m) = 1 := of_decide_eq_true h
    rw [h2]; rfl
  · intro h
    refine decide_eq_true (BitVec.eq_of_toNat_eq ?_)
    rw [h]; rfl
theorem ones_num {a : List (BitVec 64)} {N : Nat} (hN : N = 384) (h : V a 6 < 2 ^ N) : SOg (oL (dg a) N N) = V a 6 := by
  rw [oL_all]
  exact vN_num h (fun m hm => by subst hN; exact dg_iff a m hm)
/-- The places of the set bits of an element of r. -/
def onK (k : Zr) : List Nat := ones (nr k) 384
theorem onK_L (k : Zr) {N : Nat} (hN : N = 384) : onK k = oL (dg (nr k)) N N := by
  subst hN
  exact ones_oL (nr k) 384
theorem nr_ltN (k : Zr) {N : Nat} (hN : N = 384) : V (nr k) 6 < 2 ^ N := by
  have h := V_lt (nr k) 6
  rw [show 64 * 6 = N from hN.symm] at h
  exact h
theorem onK_sum (k : Zr) {N : Nat} (hN : N = 384) : SOg (onK k) = k.val := by rw [onK_L k hN, ones_num hN (nr_ltN k hN), V_nr]
theorem onK_pw (k : Zr) {N : Nat} (hN : N = 384) : (onK k).Pairwise (fun a b => b ≤ a) := by rw [onK_L k hN]; exact oL_pw _ _ _ (Nat.le_refl _)
theorem onK_lt (k : Zr) {N : Nat} (hN : N = 384) {b : Nat} (h : b ∈ onK k) : b < 100000000 := by
  rw [onK_L k hN] at h
  have := oL_lt h (Nat.le_refl _)
  omega
theorem range_grow {b : Nat} {c : List Value} {w w' : World} (h : w.rangeAt b 0 c) (hg : Grow w w') : w'.rangeAt b 0 c := fun j v hv => (hg.cell (block_lt_of_cell (h j v hv))).trans (h j v hv)
theorem onK_seq (c1 : Nat) (k : Zr) {L : List Nat} (hL : onK k = L) : SeqOk Tryz.prog Gt 148 [.pointer (some ⟨c1, 0, none⟩)] (NLs L) (fun W => W.rangeAt c1 0 ((nr k).map U64)) := by
  subst hL
  exact bits_seq c1 (nr k) (nr_len k)
theorem jmulfr (p : GP) (k : Zr) {L : List Nat} (hL : onK k = L) (hb : ∀ b ∈ L, b < 100000000) : Pure Tryz.prog Gt 41 [PtV p, RV k] (EV6 (E2w.tmF p.J L)) := by
  intro w hw
  have hGF : BOk Gt (pl w) := gt_low.plain hw
  refine calls_of_X (G := Gt) Tryz.func41 rfl rfl (Hp (pl w) []) (hp_refl (pl w) trivial rides_true) (good_hp hGF) ?_
  refine xs_plain (E := EE [83, 2000083]) ?_
  refine lx_boxr 2 hGF rfl rfl rfl ?_
  intro b2
  refine lx_boxr 3 hGF rfl rfl rfl ?_
  intro b3
  refine lx_allocr 4 hGF zv33 rfl rfl ?_
  intro b4
  refine lx_nil ?_
  refine xs_drawn (E := EE [83, 2000083]) mixed (by kernel_rfl) (by kernel_rfl) (by kernel_rfl) ?_
  refine lx_loada 2 rfl rfl Tryz.isAgg33 Tryz.sizeOf33 (by simp) rfl rfl ?_
  refine lx_loada 3 rfl rfl Tryz.isAgg70 Tryz.sizeOf70 (by simp) rfl rfl ?_
  refine lx_callG rfl rfl ent83 rfl rfl (fun w' hw' => (qbits_calls k w' (hGF.g _ _ _ hw')).mono fun e' w'' h => ?_)
  obtain ⟨c1, rfl, hg, h1, ho⟩ := h
  refine ⟨_, _, rfl, good_hp hGF, hw'.news rides_true hg [(33, c1, (nr k).map U64, 26)] ?_ inj_one, hp_fresh rides_true rfl, ?_⟩
  · intro n' b' c' t' hl
    rcases lkB_cons hl with ⟨_, e⟩ | ⟨_, hl⟩
    · cases e; exact ⟨h1, ho⟩
    · cases hl
  clear hw' hg h1 ho
  refine lx_callC rfl rfl ent76 (fun w' hC hG => jtimes_calls p.J 148 [.pointer (some ⟨c1, 0, none⟩)] L (fun W => W.rangeAt c1 0 ((nr k).map U64)) ent148 (onK_seq c1 k hL) hb w' hG (fun w'' hg => range_grow (hp_row (n := 33) rfl w' hC) hg)) rfl rfl ?_
  refine lx_storea 4 hGF rfl rfl rfl Tryz.sizeOf33 (by simp) (by simp) (one_u64 _) rfl ?_
  refine lx_nil ?_
  refine x_ret ?_
  repeat (first | refine kseq_ret ?_ | refine kblk_ret ?_)
  exact kret_own 4 rfl rfl rfl Tryz.isAgg33 Tryz.sizeOf33 (by simp) (fun w hw => ⟨rfl, hp_below hw⟩)
theorem onK_jr {x : W6} {P : Pt W2} (hP : E2w.onP P) (hx : E2w.jr x P) (k : Zr) : E2w.jr (E2w.tmF x (onK k)) (E2w.times P k.val) := by
  rw [← onK_sum k rfl]
  exact E2w.tmF_jr hP hx (onK_pw k rfl)
def gMulR (p : GP) (k : Zr) : GP := ⟨E2w.tmF p.J (onK k), E2w.times p.P k.val, E2w.times_on p.on _, onK_jr p.on p.jr k⟩
theorem mulfr_p (p : GP) (k : Zr) : Pure Tryz.prog Gt 41 [PtV p, RV k] (PtV (gMulR p k)) := jmulfr p k rfl (fun _ h => onK_lt k rfl h)
end Go.Proofs.YtfknmeefbccflaaGreatDoor
