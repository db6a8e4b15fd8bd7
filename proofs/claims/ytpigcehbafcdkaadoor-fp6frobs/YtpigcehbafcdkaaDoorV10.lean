/-
  The walks of package fp6: powers of p.
-/
import Derived.Test.YtpigcehbafcdkaaDoorXB
import Derived.Test.YtpigcehbafcdkaaDoorX5
namespace Go.Proofs.YtpigcehbafcdkaaDoor
open Go.RowKit
set_option maxRecDepth 100000
set_option maxHeartbeats 1000000
attribute [local simp] fe_len nm_len AS_len SS_len MONT_len RM_len FRs_len BYs_len by48_len PLl TWOl ONEl N1l IVPl HFPl RTPl FL_len SP_len fe2_len SP2_len FM_len FF_len
attribute [local simp] ff_len

theorem third_calls (e : Option Addr) (cap : Nat) (w : World) (hw : Gt w) (hby : BytesAt w e THB) :
    Calls Tryd.prog 56 [.slice e THB.length cap].toArray w (fun r w' => r = .returned (.tuple #[EV WR, .bool (FO THB)]) ∧ Grow w w') := by
  have h := ffrom_calls e cap THB w hw hby
  rw [FV_THB] at h
  exact h
theorem frp_y {m : Nat} (h : m % 2 = 1) (y : W2) (k : Nat) : frp y m k = ml2 (cj2 y) (pw2 (GW m) k) := by rw [frp, cjn, if_pos h]
theorem frp_n {m : Nat} (h : ¬ m % 2 = 1) (y : W2) (k : Nat) : frp y m k = ml2 y (pw2 (GW m) k) := by rw [frp, cjn, if_neg h]
theorem growth_pure (n : Nat) (hn : n ≤ 1000) : Pure Tryd.prog Gt 36 [I (n : Int)] (EV2 (GW n)) := by
  intro w hw
  have hGF : BOk Gt (pl w) := gt_low.plain hw
  refine calls_of_X (G := Gt) Tryd.func36 rfl rfl (Hp (pl w) []) (hp_refl (pl w) trivial rides_true) (good_hp hGF) ?_
  refine xs_plain (E := EE [1000022]) ?_
  refine lx_allocr 2 hGF zv30 rfl rfl ?_
  intro b2
  refine lx_nil ?_
  refine xs_plain (E := EE [1000022]) ?_
  refine lx_bsl 7 THB hGF rfl rfl rfl (by decide) (by decide) Tryd.underlying22 Tryd.sizeOf5 Tryd.zeroValue5 rfl rfl ?_
  intro b7
  refine lx_cvs 7 rfl hGF rfl rfl Tryd.underlying22 Tryd.underlying5 rfl rfl ?_
  refine lx_callC rfl rfl ent56 (fun w' hC hG => third_calls _ _ w' hG (BytesAt.range (hC.own 7 b7 _ _ rfl).1.range)) rfl rfl ?_
  refine lx_move rfl rfl rfl ?_
  refine lx_ext rfl rfl rfl rfl ?_
  refine lx_ext rfl rfl rfl rfl ?_
  refine lx_allocr 3 hGF zv28 rfl rfl ?_
  intro b3
  refine lx_storea 3 hGF rfl rfl rfl Tryd.sizeOf28 (by simp) (by simp) (one_u64 _) rfl ?_
  refine lx_assign rfl rfl rfl ?_
  refine lx_nil ?_
  refine xs_plain (E := EE [1000022]) ?_
  refine lx_call rfl rfl ent43 fof1_pure rfl rfl ?_
  refine lx_allocr 5 hGF zv28 rfl rfl ?_
  intro b5
  refine lx_storea 5 hGF rfl rfl rfl Tryd.sizeOf28 (by simp) (by simp) (one_u64 _) rfl ?_
  refine lx_nil ?_
  refine x_seq ?_
  refine xs_plain (E := EE [1000022]) ?_
  refine lx_move rfl rfl rfl ?_
  refine lx_move rfl rfl rfl ?_
  refine lx_nil ?_
  refine x_block ?_
  refine x_for (ι := { i : Nat // i ≤ n }) (fun y => [(0, I (n : Int)), (2, .pointer (some ⟨b2, 0, none⟩)), (3, .pointer (some ⟨b3, 0, none⟩)), (5, .pointer (some ⟨b5, 0, none⟩)), (13, I (n : Int)), (14, I (y.1 : Int))]) (fun y => [(2, b2, (fe 0 ++ fe 0).map U64, 30), (3, b3, (fe WR).map U64, 28), (5, b5, (fe (WR ^ y.1)).map U64, 28)]) (fun y => n - y.1) ⟨0, Nat.zero_le _⟩ hGF ⟨rfl, rfl, rfl, rfl, rfl, rfl, trivial⟩ ⟨rfl, rfl, by rw [p0]; rfl, trivial⟩ ?_
  rintro ⟨i, hi⟩
  dsimp only
  refine xs_plain (E := EE [1000022]) ?_
  refine lx_bin rfl rfl (fun _ => rfl) (fun _ => bin_lss_i _ _ _) rfl rfl ?_
  refine lx_nil ?_
  refine x_seq ?_
  refine x_if rfl (fun hc => ?_) (fun hc => ?_)
  · simp only [decide_eq_true_eq] at hc
    refine x_skip ?_
    refine x_seq ?_
    refine x_block ?_
    refine x_plain (E := EE [1000022]) ?_
    refine lx_loada 5 rfl rfl Tryd.isAgg28 Tryd.sizeOf28 (by simp) rfl rfl ?_
    refine lx_loada 3 rfl rfl Tryd.isAgg28 Tryd.sizeOf28 (by simp) rfl rfl ?_
    refine lx_call rfl rfl ent50 (fmul_pure _ _) rfl rfl ?_
    refine lx_storea 5 hGF rfl rfl rfl Tryd.sizeOf28 (by simp) (by simp) (one_u64 _) rfl ?_
    refine lx_nil ?_
    refine x_plain (E := EE [1000022]) ?_
    refine lx_bin rfl rfl (fun _ => rfl) (fun _ => bin_add_i _ _ _ (by unfold inI; omega)) rfl rfl ?_
    refine lx_move rfl rfl rfl ?_
    refine lx_nil ?_
    repeat (refine kblk_n ?_)
    refine kseq_n ?_
    exact ⟨rfl, ⟨i + 1, by omega⟩, _, by show n - (i + 1) < n - i; omega, rfl, ⟨rfl, rfl, rfl, rfl, rfl, rfl, trivial⟩, ⟨rfl, rfl, by rw [ps]; rfl, trivial⟩⟩
  · obtain rfl : n = i := by simp at hc; omega
    refine x_exit ?_
    refine x_seq ?_
    refine xs_plain (E := EE [1000022]) ?_
    refine lx_move rfl rfl rfl ?_
    refine lx_bin (v := I ((n % 2 : Nat) : Int)) rfl rfl (fun _ => rfl) (fun _ => bin_rem_i _ _ _ (by decide)) rfl rfl ?_
    refine lx_bin rfl rfl (fun _ => rfl) (fun _ => bin_eql_i _ _ _) rfl rfl ?_
    refine lx_nil ?_
    refine x_if rfl (fun hc => ?_) (fun hc => ?_)
    · have hp : n % 2 = 1 := by simp at hc; omega
      refine xs_plain (E := EE [1000022]) ?_
      refine lx_loada 5 rfl rfl Tryd.isAgg28 Tryd.sizeOf28 (by simp) rfl rfl ?_
      refine lx_twoB two30 rfl (by simp) rfl rfl ?_
      refine lx_storea 2 hGF rfl rfl rfl Tryd.sizeOf30 (by simp) (by simp) (one_u64 _) rfl ?_
      refine lx_nil ?_
      refine x_ret ?_
      repeat (first | refine kseq_ret ?_ | refine kblk_ret ?_)
      exact kret_own 2 rfl rfl rfl Tryd.isAgg30 Tryd.sizeOf30 (by simp) (fun w hw => ⟨by first | rw [GW, if_pos hp] | rw [GW, if_neg hp], hp_below hw⟩)
    · have hp : ¬ n % 2 = 1 := by simp at hc; omega
      refine x_skip ?_
      refine xs_plain (E := EE [1000022]) ?_
      refine lx_loada 5 rfl rfl Tryd.isAgg28 Tryd.sizeOf28 (by simp) rfl rfl ?_
      refine lx_twoA two30 rfl (by simp) rfl rfl ?_
      refine lx_storea 2 hGF rfl rfl rfl Tryd.sizeOf30 (by simp) (by simp) (one_u64 _) rfl ?_
      refine lx_nil ?_
      refine x_ret ?_
      repeat (first | refine kseq_ret ?_ | refine kblk_ret ?_)
      exact kret_own 2 rfl rfl rfl Tryd.isAgg30 Tryd.sizeOf30 (by simp) (fun w hw => ⟨by first | rw [GW, if_pos hp] | rw [GW, if_neg hp], hp_below hw⟩)
theorem tm6_in2 (n : Int) : inI (n.tmod 6 + 6) := by
  have h : n.tmod 6 = n % 6 ∨ n.tmod 6 = n % 6 - 6 := by
    rw [Int.tmod_eq_emod]
    split
    · left; omega
    · right; rfl
  unfold inI; omega
theorem k6frob (x : W6) (n : Int) : Pure Tryd.prog Gt 15 [EV6 x, I n] (EV6 (frn x (n % 6).toNat)) := by
  intro w hw
  have hGF : BOk Gt (pl w) := gt_low.plain hw
  obtain ⟨m, hm⟩ : ∃ m : Nat, (n % 6).toNat = m := ⟨_, rfl⟩
  have hm6 : m < 6 := by omega
  rw [hm, frn_eq]
  refine calls_of_XM (G := Gt) Tryd.func15 rfl rfl (Hp (pl w) []) (hp_refl (pl w) trivial rides_true) (good_hp hGF) ?_
  refine xs_plain (E := EE [26]) ?_
  refine lx_boxr 2 hGF rfl rfl rfl ?_
  intro b2
  refine lx_box 3 hGF rfl rfl rfl ?_
  intro b3
  refine lx_allocr 4 hGF zv32 rfl rfl ?_
  intro b4
  refine lx_nil ?_
  refine xs_plain (E := EE [26]) ?_
  refine lx_loadl 3 rfl rfl rfl Tryd.isAgg3 rfl rfl ?_
  refine lx_bin (v := I (n.tmod 6)) rfl rfl (fun _ => rfl) (fun _ => bin_rem_i _ _ _ (by decide)) rfl rfl ?_
  refine lx_bin (v := I (n.tmod 6 + 6)) rfl rfl (fun _ => rfl) (fun _ => bin_add_i _ _ _ (tm6_in2 n)) rfl rfl ?_
  refine lx_bin (v := I (m : Int)) rfl rfl (fun _ => rfl) (fun _ => (bin_rem_i _ _ _ (by decide)).trans (by rw [tm6b, hm])) rfl rfl ?_
  refine lx_store 3 hGF rfl rfl rfl Tryd.sizeOf3 rfl (by show 0 < 1; decide) rfl ?_
  refine lx_nil ?_
  refine xs_plain (E := EE [26]) ?_
  refine lx_loadl 3 rfl rfl rfl Tryd.isAgg3 rfl rfl ?_
  refine lx_call rfl rfl ent36 (growth_pure m (by omega)) rfl rfl ?_
  refine lx_call rfl rfl ent31 (e2one) rfl rfl ?_
  refine lx_allocr 5 hGF zv30 rfl rfl ?_
  intro b5
  refine lx_allocr 6 hGF zv30 rfl rfl ?_
  intro b6
  refine lx_storea 5 hGF rfl rfl rfl Tryd.sizeOf30 (by simp) (by simp) (one_u64 _) rfl ?_
  refine lx_storea 6 hGF rfl rfl rfl Tryd.sizeOf30 (by simp) (by simp) (one_u64 _) rfl ?_
  refine lx_nil ?_
  refine xs_plain (E := EE [26]) ?_
  refine lx_allocr 7 hGF zv55 rfl rfl ?_
  intro b7
  refine lx_nil ?_
  refine x_seq ?_
  refine xs_plain (E := EE [26]) ?_
  refine lx_loada 2 rfl rfl Tryd.isAgg32 Tryd.sizeOf32 (by simp) rfl rfl ?_
  refine lx_callE rfl rfl ent26 rfl rfl (fun w' hw' => (k6parts_calls x w' (hGF.g _ _ _ hw')).mono fun e' w'' h => ?_)
  obtain ⟨c1, rfl, hg, h1, ho⟩ := h
  refine ⟨_, _, rfl, good_hp hGF, hw'.news rides_true hg [(33, c1, ((fe (x.1).1 ++ fe (x.1).2) ++ ((fe (x.2.1).1 ++ fe (x.2.1).2) ++ (fe (x.2.2).1 ++ fe (x.2.2).2))).map U64, 32)] ?_ inj_one, ?_⟩
  · intro n' b' c' t' hl
    rcases lkB_cons hl with ⟨_, e⟩ | ⟨_, hl⟩
    · cases e; exact ⟨h1, ho⟩
    · cases hl
  clear hw' hg h1 ho
  refine lx_nil ?_
  refine x_block ?_
  refine x_range (fun _ => pl w) (fun _ _ => pl w) (fun _ => hGF) (fun _ _ => hGF) (fun _ => rfl) (fun _ _ => rfl) rfl rfl ent48 (k6seq c1 x) (fun v hv => by obtain ⟨k, hk, rfl⟩ := List.mem_map.1 hv; rfl) rfl (fun k => [(2, b2, ((fe (x.1).1 ++ fe (x.1).2) ++ ((fe (x.2.1).1 ++ fe (x.2.1).2) ++ (fe (x.2.2).1 ++ fe (x.2.2).2))).map U64, 32), (3, b3, [I (m : Int)], 3), (4, b4, ((fe 0 ++ fe 0) ++ ((fe 0 ++ fe 0) ++ (fe 0 ++ fe 0))).map U64, 32), (5, b5, (fe (GW m).1 ++ fe (GW m).2).map U64, 30), (6, b6, (fe (pw2 (GW m) k).1 ++ fe (pw2 (GW m) k).2).map U64, 30), (7, b7, (FM (FF (fun j => if j < k then frp (p3 x j) m j else ze2)) 3).map U64, 55), (33, c1, ((fe (x.1).1 ++ fe (x.1).2) ++ ((fe (x.2.1).1 ++ fe (x.2.1).2) ++ (fe (x.2.2).1 ++ fe (x.2.2).2))).map U64, 32)]) (fun _ _ _ => False) ⟨rfl, rfl, rfl, rfl, rfl, congrArg (fun l => some (b7, l, _)) (congrArg (List.map U64) (FF_congr fun j _ => (if_neg (Nat.not_lt_zero j)).symm)), rfl, trivial⟩ (fun k _ w' h => hp_row (n := 33) rfl w' h) ?_ ?_ (fun _ _ _ _ _ h => h.elim)
  · intro k v hx R hR
    obtain ⟨hk, rfl⟩ := PS_at x k v hx
    refine xs_plain (E := EE [26]) ?_
    refine lx_assign rfl rfl rfl ?_
    refine lx_nil ?_
    refine x_plain (E := EE [26]) ?_
    refine lx_allocr 9 (hR (pl w) rfl hGF).1 zv30 rfl rfl ?_
    intro b9
    refine lx_storea 9 (hR (pl w) rfl hGF).1 rfl rfl rfl Tryd.sizeOf30 (by simp) (by simp) (one_u64 _) rfl ?_
    refine lx_nil ?_
    refine ⟨rfl, _, rfl, ?_⟩
    refine x_block ?_
    refine x_seq ?_
    refine xs_plain (E := EE [26]) ?_
    refine lx_loadl 3 rfl rfl rfl Tryd.isAgg3 rfl rfl ?_
    refine lx_bin (v := I ((m % 2 : Nat) : Int)) rfl rfl (fun _ => rfl) (fun _ => bin_rem_i _ _ _ (by decide)) rfl rfl ?_
    refine lx_bin rfl rfl (fun _ => rfl) (fun _ => bin_eql_i _ _ _) rfl rfl ?_
    refine lx_nil ?_
    refine x_if rfl (fun hc => ?_) (fun hc => ?_)
    · have hp : m % 2 = 1 := by simp at hc; omega
      refine x_plain (E := EE [26]) ?_
      refine lx_loada 9 rfl rfl Tryd.isAgg30 Tryd.sizeOf30 (by simp) rfl rfl ?_
      refine lx_call rfl rfl ent37 (e2conj _) rfl rfl ?_
      refine lx_storea 9 (hR (pl w) rfl hGF).2.1 rfl rfl rfl Tryd.sizeOf30 (by simp) (by simp) (one_u64 _) rfl ?_
      refine lx_nil ?_
      refine xs_plain (E := EE [26]) ?_
      refine lx_move rfl rfl rfl ?_
      refine lx_loada 9 rfl rfl Tryd.isAgg30 Tryd.sizeOf30 (by simp) rfl rfl ?_
      refine lx_loada 6 rfl rfl Tryd.isAgg30 Tryd.sizeOf30 (by simp) rfl rfl ?_
      refine lx_call rfl rfl ent28 (e2mul _ _) rfl rfl ?_
      refine lx_iak (k) (12 * (k)) rfl rfl Tryd.underlying55 Tryd.sizeOf30 (by omega) (by omega) (by omega) rfl rfl ?_
      refine lx_storeo 7 ((FM (FF (fun j => if j < k + 1 then frp (p3 x j) m j else ze2)) 3).map U64) (hR (pl w) rfl hGF).2.1 rfl rfl rfl Tryd.sizeOf30 (by simp) (one_u64 _) (by simp; omega) (FF_step _ _ (ml2 (cj2 (p3 x k)) (pw2 (GW m) k)) 3 (k) _ (by omega) rfl (fun j _ => by rw [← frp_y hp]; exact upd_lt (fun j => frp (p3 x j) m j) (fun _ => ze2) k j)) rfl ?_
      refine lx_nil ?_
      refine x_plain (E := EE [26]) ?_
      refine lx_loada 6 rfl rfl Tryd.isAgg30 Tryd.sizeOf30 (by simp) rfl rfl ?_
      refine lx_loada 5 rfl rfl Tryd.isAgg30 Tryd.sizeOf30 (by simp) rfl rfl ?_
      refine lx_call rfl rfl ent28 (e2mul _ _) rfl rfl ?_
      refine lx_storea 6 (hR (pl w) rfl hGF).2.1 rfl rfl rfl Tryd.sizeOf30 (by simp) (by simp) (one_u64 _) rfl ?_
      refine lx_nil ?_
      repeat (refine kblk_n ?_)
      exact ⟨_, rfl, ⟨rfl, rfl, rfl, rfl, rfl, rfl, rfl, trivial⟩⟩
    · have hp : ¬ m % 2 = 1 := by simp at hc; omega
      refine x_skip ?_
      refine xs_plain (E := EE [26]) ?_
      refine lx_move rfl rfl rfl ?_
      refine lx_loada 9 rfl rfl Tryd.isAgg30 Tryd.sizeOf30 (by simp) rfl rfl ?_
      refine lx_loada 6 rfl rfl Tryd.isAgg30 Tryd.sizeOf30 (by simp) rfl rfl ?_
      refine lx_call rfl rfl ent28 (e2mul _ _) rfl rfl ?_
      refine lx_iak (k) (12 * (k)) rfl rfl Tryd.underlying55 Tryd.sizeOf30 (by omega) (by omega) (by omega) rfl rfl ?_
      refine lx_storeo 7 ((FM (FF (fun j => if j < k + 1 then frp (p3 x j) m j else ze2)) 3).map U64) (hR (pl w) rfl hGF).2.1 rfl rfl rfl Tryd.sizeOf30 (by simp) (one_u64 _) (by simp; omega) (FF_step _ _ (ml2 (p3 x k) (pw2 (GW m) k)) 3 (k) _ (by omega) rfl (fun j _ => by rw [← frp_n hp]; exact upd_lt (fun j => frp (p3 x j) m j) (fun _ => ze2) k j)) rfl ?_
      refine lx_nil ?_
      refine x_plain (E := EE [26]) ?_
      refine lx_loada 6 rfl rfl Tryd.isAgg30 Tryd.sizeOf30 (by simp) rfl rfl ?_
      refine lx_loada 5 rfl rfl Tryd.isAgg30 Tryd.sizeOf30 (by simp) rfl rfl ?_
      refine lx_call rfl rfl ent28 (e2mul _ _) rfl rfl ?_
      refine lx_storea 6 (hR (pl w) rfl hGF).2.1 rfl rfl rfl Tryd.sizeOf30 (by simp) (by simp) (one_u64 _) rfl ?_
      refine lx_nil ?_
      repeat (refine kblk_n ?_)
      exact ⟨_, rfl, ⟨rfl, rfl, rfl, rfl, rfl, rfl, rfl, trivial⟩⟩
  · intro D hD
    rw [PS_len]
    refine xs_plain (E := EE [26]) ?_
    refine lx_loada 7 rfl rfl Tryd.isAgg55 Tryd.sizeOf55 (by simp) rfl rfl ?_
    refine lx_call rfl rfl ent38 (k6of _) rfl rfl ?_
    refine lx_storea 4 hD rfl rfl rfl Tryd.sizeOf32 (by simp) (by simp) (one_u64 _) rfl ?_
    refine lx_nil ?_
    refine x_ret ?_
    repeat (first | refine kseq_ret ?_ | refine kblk_ret ?_)
    exact kretM_1 (.inl rfl) rides_true (kret_own 4 rfl rfl rfl Tryd.isAgg32 Tryd.sizeOf32 (by simp) (fun w hw => ⟨e6 rfl rfl rfl, hp_below hw⟩))
end Go.Proofs.YtpigcehbafcdkaaDoor
