/-
  The walks of package fp12: powers of p.
-/
import Derived.Test.YtbpifgcbkhohbaaGreatDoorW7
import Derived.Test.YtbpifgcbkhohbaaGreatDoorX5
namespace Go.Proofs.YtbpifgcbkhohbaaGreatDoor
open Go.RowKit
set_option maxRecDepth 100000
set_option maxHeartbeats 1000000
attribute [local simp] fe_len nm_len AS_len SS_len MONT_len RM_len FRs_len BYs_len by48_len PLl TWOl ONEl N1l IVPl HFPl RTPl FL_len SP_len fe2_len SP2_len FM_len FF_len
attribute [local simp] ff_len RW_len

theorem sixth_calls (e : Option Addr) (cap : Nat) (w : World) (hw : Gt w) (hby : BytesAt w e SXB) :
    Calls Tryz.prog 81 [.slice e SXB.length cap].toArray w (fun r w' => r = .returned (.tuple #[EV SR, .bool (FO SXB)]) ∧ Grow w w') := by
  have h := ffrom_calls e cap SXB w hw hby
  rw [FV_SXB] at h
  exact h
theorem frq_y {m : Nat} (h : m % 2 = 1) (y : W2) (k : Nat) : frq y m k = ml2 (cj2 y) (pw2 (GV m) k) := by rw [frq, cjn, if_pos h]
theorem frq_n {m : Nat} (h : ¬ m % 2 = 1) (y : W2) (k : Nat) : frq y m k = ml2 y (pw2 (GV m) k) := by rw [frq, cjn, if_neg h]
theorem GV_s (i : Nat) : GV (i + 1) = ml2 (cj2 (GV i)) ((SR, -SR) : W2) := by rw [SR_GA]; rfl
theorem growth12 (n : Nat) (hn : n ≤ 1000) : Pure Tryz.prog Gt 48 [I (n : Int)] (EV2 (GV n)) := by
  intro w hw
  have hGF : BOk Gt (pl w) := gt_low.plain hw
  refine calls_of_X (G := Gt) Tryz.func48 rfl rfl (Hp (pl w) []) (hp_refl (pl w) trivial rides_true) (good_hp hGF) ?_
  refine xs_plain (E := EE [1000022]) ?_
  refine lx_allocr 2 hGF zv30 rfl rfl ?_
  intro b2
  refine lx_nil ?_
  refine xs_plain (E := EE [1000022]) ?_
  refine lx_bsl 8 SXB hGF rfl rfl rfl (by decide) (by decide) Tryz.underlying22 Tryz.sizeOf5 Tryz.zeroValue5 rfl rfl ?_
  intro b8
  refine lx_cvs 8 rfl hGF rfl rfl Tryz.underlying22 Tryz.underlying5 rfl rfl ?_
  refine lx_callC rfl rfl ent81 (fun w' hC hG => sixth_calls _ _ w' hG (BytesAt.range (hC.own 8 b8 _ _ rfl).1.range)) rfl rfl ?_
  refine lx_move rfl rfl rfl ?_
  refine lx_ext rfl rfl rfl rfl ?_
  refine lx_ext rfl rfl rfl rfl ?_
  refine lx_allocr 3 hGF zv28 rfl rfl ?_
  intro b3
  refine lx_storea 3 hGF rfl rfl rfl Tryz.sizeOf28 (by simp) (by simp) (one_u64 _) rfl ?_
  refine lx_assign rfl rfl rfl ?_
  refine lx_nil ?_
  refine xs_drawA (E := EE [1000022, 2999999]) [0, 1, 2, 3] [⟨4, 5, 30, (fe 0 ++ fe 0).map U64⟩] [5] mixed rfl (by kernel_rfl) (by kernel_rfl) (by kernel_rfl) (by kernel_rfl) (by kernel_rfl) (by kernel_rfl) (by decide) (by intro x hx; simp only [List.mem_cons, List.not_mem_nil, or_false] at hx; subst hx; exact isAlloc_mk rfl zv30 rfl) ?_
  refine lx_loada 3 rfl rfl Tryz.isAgg28 Tryz.sizeOf28 (by simp) rfl rfl ?_
  refine lx_loada 3 rfl rfl Tryz.isAgg28 Tryz.sizeOf28 (by simp) rfl rfl ?_
  refine lx_call rfl rfl ent82 (fneg_pure _) rfl rfl ?_
  refine lx_two two30 rfl rfl (by simp) (by simp) rfl rfl ?_
  refine lx_nil ?_
  refine ⟨_, _, rfl, hGF, by intro x hx; simp only [List.mem_cons, List.not_mem_nil, or_false] at hx; subst hx; rfl, by intro x hx; simp only [List.mem_cons, List.not_mem_nil, or_false] at hx; subst hx; rfl, fun adr => ?_⟩
  refine lx_storea 5 hGF rfl rfl rfl Tryz.sizeOf30 (by simp) (by simp) (one_u64 _) rfl ?_
  refine lx_nil ?_
  refine xs_plain (E := EE [1000022]) ?_
  refine lx_call rfl rfl ent49 (e2one) rfl rfl ?_
  refine lx_allocr 6 hGF zv30 rfl rfl ?_
  intro b6
  refine lx_storea 6 hGF rfl rfl rfl Tryz.sizeOf30 (by simp) (by simp) (one_u64 _) rfl ?_
  refine lx_nil ?_
  refine x_seq ?_
  refine xs_plain (E := EE [1000022]) ?_
  refine lx_move rfl rfl rfl ?_
  refine lx_move rfl rfl rfl ?_
  refine lx_nil ?_
  refine x_block ?_
  refine x_for (ι := { i : Nat // i ≤ n }) (fun y => [(0, I (n : Int)), (2, .pointer (some ⟨b2, 0, none⟩)), (3, .pointer (some ⟨b3, 0, none⟩)), (5, .pointer (some ⟨(adr 5), 0, none⟩)), (6, .pointer (some ⟨b6, 0, none⟩)), (18, I (n : Int)), (19, I (y.1 : Int))]) (fun y => [(2, b2, (fe 0 ++ fe 0).map U64, 30), (3, b3, (fe SR).map U64, 28), (5, adr 5, (fe SR ++ fe (-SR)).map U64, 30), (6, b6, (fe (GV y.1).1 ++ fe (GV y.1).2).map U64, 30)]) (fun y => n - y.1) ⟨0, Nat.zero_le _⟩ hGF ⟨rfl, rfl, rfl, rfl, rfl, rfl, rfl, trivial⟩ ⟨rfl, rfl, rfl, rfl, trivial⟩ ?_
  rintro ⟨i, hi⟩
  dsimp only
  refine xs_plain (E := EE [1000022]) ?_
  refine lx_bin rfl rfl (fun _ => rfl) (fun _ => bin_lss_i _ _ _) rfl rfl ?_
  refine lx_nil ?_
  refine x_seq ?_
  refine x_if rfl (fun hc => ?_) (fun hc => ?_)
  · simp only [decide_eq_true_eq] at hc
    refine x_skip ?_
    refine x_seq ?_
    refine x_block ?_
    refine x_drawn (E := EE [1000022]) mixed (by kernel_rfl) (by kernel_rfl) (by kernel_rfl) ?_
    refine lx_loada 6 rfl rfl Tryz.isAgg30 Tryz.sizeOf30 (by simp) rfl rfl ?_
    refine lx_call rfl rfl ent51 (e2conj _) rfl rfl ?_
    refine lx_loada 5 rfl rfl Tryz.isAgg30 Tryz.sizeOf30 (by simp) rfl rfl ?_
    refine lx_call rfl rfl ent52 (e2mul (cj2 (GV i)) ((SR, -SR) : W2)) rfl rfl ?_
    refine lx_storea 6 hGF rfl rfl rfl Tryz.sizeOf30 (by simp) (by simp) (one_u64 _) rfl ?_
    refine lx_nil ?_
    refine x_plain (E := EE [1000022]) ?_
    refine lx_bin rfl rfl (fun _ => rfl) (fun _ => bin_add_i _ _ _ (by unfold inI; omega)) rfl rfl ?_
    refine lx_move rfl rfl rfl ?_
    refine lx_nil ?_
    repeat (refine kblk_n ?_)
    refine kseq_n ?_
    exact ⟨rfl, ⟨i + 1, by omega⟩, _, by show n - (i + 1) < n - i; omega, rfl, ⟨rfl, rfl, rfl, rfl, rfl, rfl, rfl, trivial⟩, ⟨rfl, rfl, rfl, by rw [GV_s i]; rfl, trivial⟩⟩
  · obtain rfl : n = i := by simp at hc; omega
    refine x_exit ?_
    refine xs_plain (E := EE [1000022]) ?_
    refine lx_loada 6 rfl rfl Tryz.isAgg30 Tryz.sizeOf30 (by simp) rfl rfl ?_
    refine lx_storea 2 hGF rfl rfl rfl Tryz.sizeOf30 (by simp) (by simp) (one_u64 _) rfl ?_
    refine lx_nil ?_
    refine x_ret ?_
    repeat (first | refine kseq_ret ?_ | refine kblk_ret ?_)
    exact kret_own 2 rfl rfl rfl Tryz.isAgg30 Tryz.sizeOf30 (by simp) (fun w hw => ⟨rfl, hp_below hw⟩)
theorem k12frob (x : W12) (n : Int) : Pure Tryz.prog Gt 23 [EV12 x, I n] (EV12 (fn12 x (n % 12).toNat)) := by
  intro w hw
  have hGF : BOk Gt (pl w) := gt_low.plain hw
  obtain ⟨m, hm⟩ : ∃ m : Nat, (n % 12).toNat = m := ⟨_, rfl⟩
  have hm6 : m < 12 := by omega
  rw [hm, fn12_eq]
  refine calls_of_XM (G := Gt) Tryz.func23 rfl rfl (Hp (pl w) []) (hp_refl (pl w) trivial rides_true) (good_hp hGF) ?_
  refine xs_plain (E := EE [50]) ?_
  refine lx_boxr 2 hGF rfl rfl rfl ?_
  intro b2
  refine lx_box 3 hGF rfl rfl rfl ?_
  intro b3
  refine lx_allocr 4 hGF zv34 rfl rfl ?_
  intro b4
  refine lx_nil ?_
  refine xs_plain (E := EE [50]) ?_
  refine lx_loadl 3 rfl rfl rfl Tryz.isAgg3 rfl rfl ?_
  refine lx_bin (v := I (n.tmod 12)) rfl rfl (fun _ => rfl) (fun _ => bin_rem_i _ _ _ (by decide)) rfl rfl ?_
  refine lx_bin (v := I (n.tmod 12 + 12)) rfl rfl (fun _ => rfl) (fun _ => bin_add_i _ _ _ (tm12_in2 n)) rfl rfl ?_
  refine lx_bin (v := I (m : Int)) rfl rfl (fun _ => rfl) (fun _ => (bin_rem_i _ _ _ (by decide)).trans (by rw [tm12b, hm])) rfl rfl ?_
  refine lx_store 3 hGF rfl rfl rfl Tryz.sizeOf3 rfl (by show 0 < 1; decide) rfl ?_
  refine lx_nil ?_
  refine xs_plain (E := EE [50]) ?_
  refine lx_loadl 3 rfl rfl rfl Tryz.isAgg3 rfl rfl ?_
  refine lx_call rfl rfl ent48 (growth12 m (by omega)) rfl rfl ?_
  refine lx_call rfl rfl ent49 (e2one) rfl rfl ?_
  refine lx_allocr 5 hGF zv30 rfl rfl ?_
  intro b5
  refine lx_allocr 6 hGF zv30 rfl rfl ?_
  intro b6
  refine lx_storea 5 hGF rfl rfl rfl Tryz.sizeOf30 (by simp) (by simp) (one_u64 _) rfl ?_
  refine lx_storea 6 hGF rfl rfl rfl Tryz.sizeOf30 (by simp) (by simp) (one_u64 _) rfl ?_
  refine lx_nil ?_
  refine xs_plain (E := EE [50]) ?_
  refine lx_allocr 7 hGF zv70 rfl rfl ?_
  intro b7
  refine lx_nil ?_
  refine x_seq ?_
  refine xs_plain (E := EE [50]) ?_
  refine lx_loada 2 rfl rfl Tryz.isAgg34 Tryz.sizeOf34 (by simp) rfl rfl ?_
  refine lx_callE rfl rfl ent50 rfl rfl (fun w' hw' => (k12parts_calls x w' (hGF.g _ _ _ hw')).mono fun e' w'' h => ?_)
  obtain ⟨c1, rfl, hg, h1, ho⟩ := h
  refine ⟨_, _, rfl, good_hp hGF, hw'.news rides_true hg [(33, c1, (((fe (x.1.1).1 ++ fe (x.1.1).2) ++ ((fe (x.1.2.1).1 ++ fe (x.1.2.1).2) ++ (fe (x.1.2.2).1 ++ fe (x.1.2.2).2))) ++ ((fe (x.2.1).1 ++ fe (x.2.1).2) ++ ((fe (x.2.2.1).1 ++ fe (x.2.2.1).2) ++ (fe (x.2.2.2).1 ++ fe (x.2.2.2).2)))).map U64, 34)] ?_ inj_one, ?_⟩
  · intro n' b' c' t' hl
    rcases lkB_cons hl with ⟨_, e⟩ | ⟨_, hl⟩
    · cases e; exact ⟨h1, ho⟩
    · cases hl
  clear hw' hg h1 ho
  refine lx_nil ?_
  refine x_block ?_
  refine x_range (fun _ => pl w) (fun _ _ => pl w) (fun _ => hGF) (fun _ _ => hGF) (fun _ => rfl) (fun _ _ => rfl) rfl rfl ent83 (k12seq c1 x) (fun v hv => by obtain ⟨k, hk, rfl⟩ := List.mem_map.1 hv; rfl) rfl (fun k => [(2, b2, (((fe (x.1.1).1 ++ fe (x.1.1).2) ++ ((fe (x.1.2.1).1 ++ fe (x.1.2.1).2) ++ (fe (x.1.2.2).1 ++ fe (x.1.2.2).2))) ++ ((fe (x.2.1).1 ++ fe (x.2.1).2) ++ ((fe (x.2.2.1).1 ++ fe (x.2.2.1).2) ++ (fe (x.2.2.2).1 ++ fe (x.2.2.2).2)))).map U64, 34), (3, b3, [I (m : Int)], 3), (4, b4, (((fe 0 ++ fe 0) ++ ((fe 0 ++ fe 0) ++ (fe 0 ++ fe 0))) ++ ((fe 0 ++ fe 0) ++ ((fe 0 ++ fe 0) ++ (fe 0 ++ fe 0)))).map U64, 34), (5, b5, (fe (GV m).1 ++ fe (GV m).2).map U64, 30), (6, b6, (fe (pw2 (GV m) k).1 ++ fe (pw2 (GV m) k).2).map U64, 30), (7, b7, (FM (FF (fun j => if j < k then frq (p12 x j) m j else ze2)) 6).map U64, 70), (33, c1, (((fe (x.1.1).1 ++ fe (x.1.1).2) ++ ((fe (x.1.2.1).1 ++ fe (x.1.2.1).2) ++ (fe (x.1.2.2).1 ++ fe (x.1.2.2).2))) ++ ((fe (x.2.1).1 ++ fe (x.2.1).2) ++ ((fe (x.2.2.1).1 ++ fe (x.2.2.1).2) ++ (fe (x.2.2.2).1 ++ fe (x.2.2.2).2)))).map U64, 34)]) (fun _ _ _ => False) ⟨rfl, rfl, rfl, rfl, rfl, congrArg (fun l => some (b7, l, _)) (congrArg (List.map U64) (FF_congr fun j _ => (if_neg (Nat.not_lt_zero j)).symm)), rfl, trivial⟩ (fun k _ w' h => hp_row (n := 33) rfl w' h) ?_ ?_ (fun _ _ _ _ _ h => h.elim)
  · intro k v hx R hR
    obtain ⟨hk, rfl⟩ := PS12_at x k v hx
    refine xs_plain (E := EE [50]) ?_
    refine lx_assign rfl rfl rfl ?_
    refine lx_nil ?_
    refine x_plain (E := EE [50]) ?_
    refine lx_allocr 9 (hR (pl w) rfl hGF).1 zv30 rfl rfl ?_
    intro b9
    refine lx_storea 9 (hR (pl w) rfl hGF).1 rfl rfl rfl Tryz.sizeOf30 (by simp) (by simp) (one_u64 _) rfl ?_
    refine lx_nil ?_
    refine ⟨rfl, _, rfl, ?_⟩
    refine x_block ?_
    refine x_seq ?_
    refine xs_plain (E := EE [50]) ?_
    refine lx_loadl 3 rfl rfl rfl Tryz.isAgg3 rfl rfl ?_
    refine lx_bin (v := I ((m % 2 : Nat) : Int)) rfl rfl (fun _ => rfl) (fun _ => bin_rem_i _ _ _ (by decide)) rfl rfl ?_
    refine lx_bin rfl rfl (fun _ => rfl) (fun _ => bin_eql_i _ _ _) rfl rfl ?_
    refine lx_nil ?_
    refine x_if rfl (fun hc => ?_) (fun hc => ?_)
    · have hp : m % 2 = 1 := by simp at hc; omega
      refine x_plain (E := EE [50]) ?_
      refine lx_loada 9 rfl rfl Tryz.isAgg30 Tryz.sizeOf30 (by simp) rfl rfl ?_
      refine lx_call rfl rfl ent51 (e2conj _) rfl rfl ?_
      refine lx_storea 9 (hR (pl w) rfl hGF).2.1 rfl rfl rfl Tryz.sizeOf30 (by simp) (by simp) (one_u64 _) rfl ?_
      refine lx_nil ?_
      refine xs_plain (E := EE [50]) ?_
      refine lx_move rfl rfl rfl ?_
      refine lx_loada 9 rfl rfl Tryz.isAgg30 Tryz.sizeOf30 (by simp) rfl rfl ?_
      refine lx_loada 6 rfl rfl Tryz.isAgg30 Tryz.sizeOf30 (by simp) rfl rfl ?_
      refine lx_call rfl rfl ent52 (e2mul _ _) rfl rfl ?_
      refine lx_iak (k) (12 * (k)) rfl rfl Tryz.underlying70 Tryz.sizeOf30 (by omega) (by omega) (by omega) rfl rfl ?_
      refine lx_storeo 7 ((FM (FF (fun j => if j < k + 1 then frq (p12 x j) m j else ze2)) 6).map U64) (hR (pl w) rfl hGF).2.1 rfl rfl rfl Tryz.sizeOf30 (by simp) (one_u64 _) (by simp; omega) (FF_step _ _ (ml2 (cj2 (p12 x k)) (pw2 (GV m) k)) 6 (k) _ (by omega) rfl (fun j _ => by rw [← frq_y hp]; exact upd_lt (fun j => frq (p12 x j) m j) (fun _ => ze2) k j)) rfl ?_
      refine lx_nil ?_
      refine x_plain (E := EE [50]) ?_
      refine lx_loada 6 rfl rfl Tryz.isAgg30 Tryz.sizeOf30 (by simp) rfl rfl ?_
      refine lx_loada 5 rfl rfl Tryz.isAgg30 Tryz.sizeOf30 (by simp) rfl rfl ?_
      refine lx_call rfl rfl ent52 (e2mul _ _) rfl rfl ?_
      refine lx_storea 6 (hR (pl w) rfl hGF).2.1 rfl rfl rfl Tryz.sizeOf30 (by simp) (by simp) (one_u64 _) rfl ?_
      refine lx_nil ?_
      repeat (refine kblk_n ?_)
      exact ⟨_, rfl, ⟨rfl, rfl, rfl, rfl, rfl, rfl, rfl, trivial⟩⟩
    · have hp : ¬ m % 2 = 1 := by simp at hc; omega
      refine x_skip ?_
      refine xs_plain (E := EE [50]) ?_
      refine lx_move rfl rfl rfl ?_
      refine lx_loada 9 rfl rfl Tryz.isAgg30 Tryz.sizeOf30 (by simp) rfl rfl ?_
      refine lx_loada 6 rfl rfl Tryz.isAgg30 Tryz.sizeOf30 (by simp) rfl rfl ?_
      refine lx_call rfl rfl ent52 (e2mul _ _) rfl rfl ?_
      refine lx_iak (k) (12 * (k)) rfl rfl Tryz.underlying70 Tryz.sizeOf30 (by omega) (by omega) (by omega) rfl rfl ?_
      refine lx_storeo 7 ((FM (FF (fun j => if j < k + 1 then frq (p12 x j) m j else ze2)) 6).map U64) (hR (pl w) rfl hGF).2.1 rfl rfl rfl Tryz.sizeOf30 (by simp) (one_u64 _) (by simp; omega) (FF_step _ _ (ml2 (p12 x k) (pw2 (GV m) k)) 6 (k) _ (by omega) rfl (fun j _ => by rw [← frq_n hp]; exact upd_lt (fun j => frq (p12 x j) m j) (fun _ => ze2) k j)) rfl ?_
      refine lx_nil ?_
      refine x_plain (E := EE [50]) ?_
      refine lx_loada 6 rfl rfl Tryz.isAgg30 Tryz.sizeOf30 (by simp) rfl rfl ?_
      refine lx_loada 5 rfl rfl Tryz.isAgg30 Tryz.sizeOf30 (by simp) rfl rfl ?_
      refine lx_call rfl rfl ent52 (e2mul _ _) rfl rfl ?_
      refine lx_storea 6 (hR (pl w) rfl hGF).2.1 rfl rfl rfl Tryz.sizeOf30 (by simp) (by simp) (one_u64 _) rfl ?_
      refine lx_nil ?_
      repeat (refine kblk_n ?_)
      exact ⟨_, rfl, ⟨rfl, rfl, rfl, rfl, rfl, rfl, rfl, trivial⟩⟩
  · intro D hD
    rw [PS12_len]
    refine xs_plain (E := EE [50]) ?_
    refine lx_loada 7 rfl rfl Tryz.isAgg70 Tryz.sizeOf70 (by simp) rfl rfl ?_
    refine lx_call rfl rfl ent53 (k12of _) rfl rfl ?_
    refine lx_storea 4 hD rfl rfl rfl Tryz.sizeOf34 (by simp) (by simp) (one_u64 _) rfl ?_
    refine lx_nil ?_
    refine x_ret ?_
    repeat (first | refine kseq_ret ?_ | refine kblk_ret ?_)
    exact kretM_1 (.inl rfl) rides_true (kret_own 4 rfl rfl rfl Tryz.isAgg34 Tryz.sizeOf34 (by simp) (fun w hw => ⟨e12 rfl rfl, hp_below hw⟩))
theorem k12frob_ok (x : W12) (n : Int) (_ : inI n) : Pure Tryz.prog Gt 23 [EV12 x, I n] (EV12 (fn12 x (n % 12).toNat)) := k12frob x n
end Go.Proofs.YtbpifgcbkhohbaaGreatDoor
