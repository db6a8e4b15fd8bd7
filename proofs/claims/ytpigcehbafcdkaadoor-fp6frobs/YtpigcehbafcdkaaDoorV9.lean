/-
  The law Fp6Frobs.
-/
import Derived.Test.YtpigcehbafcdkaaDoorV6
import Derived.Test.YtpigcehbafcdkaaDoorV7
import Derived.Test.YtpigcehbafcdkaaDoorX5
namespace Go.Proofs.YtpigcehbafcdkaaDoor
open Go.RowKit
set_option maxRecDepth 100000
set_option maxHeartbeats 1000000
attribute [local simp] fe_len nm_len AS_len SS_len MONT_len RM_len FRs_len BYs_len by48_len PLl TWOl ONEl N1l IVPl HFPl RTPl FL_len SP_len fe2_len SP2_len FM_len FF_len

theorem tm6 (n : Int) : n.tmod 6 = n % 6 ∨ n.tmod 6 = n % 6 - 6 := by
  rw [Int.tmod_eq_emod]
  split
  · left; omega
  · right; rfl
theorem tm6_y (n : Int) (h : n.tmod 6 < 0) : n.tmod 6 + 6 = (((n % 6).toNat : Nat) : Int) := by have := tm6 n; omega
theorem tm6_n (n : Int) (h : ¬ n.tmod 6 < 0) : n.tmod 6 = (((n % 6).toNat : Nat) : Int) := by have := tm6 n; omega
theorem tm6_in (n : Int) (h : n.tmod 6 < 0) : inI (n.tmod 6 + 6) := by have := tm6 n; unfold inI; omega
/-- What is asked of the program's Frob. -/
abbrev FrobOk : Prop := ∀ (x : W6) (n : Int), inI n → Pure Tryd.prog Gt 15 [EV6 x, I n] (EV6 (frn x (n % 6).toNat))
theorem frobN (hF : FrobOk) (x : W6) (k : Nat) (hk : k ≤ 1000) : Pure Tryd.prog Gt 15 [EV6 x, I (k : Int)] (EV6 (frn x k)) := by
  have h := hF x (k : Int) (by unfold inI; omega)
  rw [show ((k : Int) % 6).toNat = k % 6 by omega, frn_mod] at h
  exact h
theorem q_frob (x : W6) : decide (FM (FF (RX (frn x 1))) 6 = FM (FF (FRn (RX x) 1)) 6) = true := eqT ((frn_one x).trans (tq_FRn (RX x) 0).symm)
theorem k_lt (n : Int) : (n % 6).toNat < 6 := by omega
theorem frobs6 (e0 : Option Addr) (cap0 : Nat) (bs0 : List (BitVec 8)) (hcap0 : bs0.length ≤ cap0) (e1 : Option Addr) (cap1 : Nat) (bs1 : List (BitVec 8)) (hcap1 : bs1.length ≤ cap1) (n2 n3 : Int) (hn2 : inI n2) (hF : FrobOk) (w : World) (hw : Gt w) (hb0 : BytesAt w e0 bs0) (hb1 : BytesAt w e1 bs1) :
    Calls Tryd.prog 4 [.slice e0 bs0.length cap0, .slice e1 bs1.length cap1, I n2, I n3].toArray w (fun r w' => r = .returned (.bool true) ∧ Grow w w') := by
  have hGF : BOk Gt (pl w) := gt_low.plain hw
  refine calls_of_X (G := Gt) Tryd.func4 rfl rfl (Hp (pl w) []) (hp_refl (pl w) trivial rides_true) (good_hp hGF) ?_
  refine xs_plain (E := EE []) ?_
  refine lx_assign rfl rfl rfl ?_
  refine lx_nil ?_
  refine x_seq ?_
  refine xs_plain (E := EE []) ?_
  refine lx_callB true rfl rfl ent5 (known6) (rfl) rfl rfl ?_
  refine lx_un rfl (fun _ => un_not _) rfl rfl ?_
  refine lx_nil ?_
  refine x_false rfl ?_
  refine x_skip ?_
  refine x_seq ?_
  refine xs_plain (E := EE []) ?_
  refine lx_move rfl rfl rfl ?_
  refine lx_move rfl rfl rfl ?_
  refine lx_bslV 940 (SVl [(e0, bs0.length, cap0), (e1, bs1.length, cap1)]) hGF rfl rfl rfl (by decide) (by decide) Tryd.underlying52 Tryd.sizeOf22 Tryd.zeroValue22 rfl rfl rfl ?_
  intro b940
  refine lx_callC rfl rfl ent6 (fun w' hC hG => light_calls b940 2 [(e0, bs0.length, cap0), (e1, bs1.length, cap1)] rfl (by decide) w' hG (hp_row (n := 940) rfl w' hC)) rfl rfl ?_
  refine lx_un rfl (fun _ => un_not _) rfl rfl ?_
  refine lx_nil ?_
  refine x_if rfl (fun hc => ?_) (fun hc => ?_)
  · skip
    refine xs_plain (E := EE []) ?_
    refine lx_assign rfl rfl rfl ?_
    refine lx_nil ?_
    refine x_ret ?_
    repeat (first | refine kseq_ret ?_ | refine kblk_ret ?_)
    exact kret_tmp rfl rfl (fun w hw => ⟨rfl, hp_below hw⟩)
  · have hl : ∀ v ∈ [(e0, bs0.length, cap0), (e1, bs1.length, cap1)], v.2.1 ≤ 200 := by simpa using hc
    have hl0 : bs0.length ≤ 200 := hl (e0, bs0.length, cap0) (by simp)
    have hl1 : bs1.length ≤ 200 := hl (e1, bs1.length, cap1) (by simp)
    clear hc hl
    refine x_skip ?_
    refine xs_plain (E := EE []) ?_
    refine lx_move rfl rfl rfl ?_
    refine lx_callC rfl rfl ent7 (fun w' hC hG => six_calls e0 cap0 bs0 (by omega) hcap0 w' hG (hb0.grow (hp_below hC))) rfl rfl ?_
    refine lx_move rfl rfl rfl ?_
    refine lx_callC rfl rfl ent7 (fun w' hC hG => six_calls e1 cap1 bs1 (by omega) hcap1 w' hG (hb1.grow (hp_below hC))) rfl rfl ?_
    refine lx_allocr 9 hGF zv32 rfl rfl ?_
    intro b9
    refine lx_allocr 10 hGF zv32 rfl rfl ?_
    intro b10
    refine lx_storea 9 hGF rfl rfl rfl Tryd.sizeOf32 (by simp) (by simp) (one_u64 _) rfl ?_
    refine lx_storea 10 hGF rfl rfl rfl Tryd.sizeOf32 (by simp) (by simp) (one_u64 _) rfl ?_
    refine lx_nil ?_
    refine xs_plain (E := EE []) ?_
    refine lx_move rfl rfl rfl ?_
    refine lx_bin rfl rfl (fun _ => rfl) (fun _ => bin_rem_i _ _ _ (by decide)) rfl rfl ?_
    refine lx_assign rfl rfl rfl ?_
    refine lx_nil ?_
    refine x_join (ι := Unit) (fun _ => [(11, I (((n2 % 6).toNat : Nat) : Int)), (2, I n2), (3, I n3), (9, .pointer (some ⟨b9, 0, none⟩)), (10, .pointer (some ⟨b10, 0, none⟩))]) (fun _ => [(9, b9, ((fe (SIX bs0).1.1 ++ fe (SIX bs0).1.2) ++ ((fe (SIX bs0).2.1.1 ++ fe (SIX bs0).2.1.2) ++ (fe (SIX bs0).2.2.1 ++ fe (SIX bs0).2.2.2))).map U64, 32), (10, b10, ((fe (SIX bs1).1.1 ++ fe (SIX bs1).1.2) ++ ((fe (SIX bs1).2.1.1 ++ fe (SIX bs1).2.1.2) ++ (fe (SIX bs1).2.2.1 ++ fe (SIX bs1).2.2.2))).map U64, 32)]) hGF ?_ ?_
    · skip
      refine xs_plain (E := EE []) ?_
      refine lx_move rfl rfl rfl ?_
      refine lx_bin rfl rfl (fun _ => rfl) (fun _ => bin_lss_i _ _ _) rfl rfl ?_
      refine lx_nil ?_
      refine x_if rfl (fun hc => ?_) (fun hc => ?_)
      · have ht := of_decide_eq_true hc
        refine x_plain (E := EE []) ?_
        refine lx_move rfl rfl rfl ?_
        refine lx_bin rfl rfl (fun _ => rfl) (fun _ => bin_add_i _ _ _ (tm6_in n2 ht)) rfl rfl ?_
        refine lx_assign rfl rfl rfl ?_
        refine lx_nil ?_
        refine kseq_n ?_
        exact ⟨rfl, (), _, rfl, ⟨congrArg (fun z => some (I z)) (tm6_y n2 ht), rfl, rfl, rfl, rfl, trivial⟩, ⟨rfl, rfl, trivial⟩⟩
      · have ht := of_decide_eq_false hc
        refine x_skip ?_
        refine kseq_n ?_
        exact ⟨rfl, (), _, rfl, ⟨congrArg (fun z => some (I z)) (tm6_n n2 ht), rfl, rfl, rfl, rfl, trivial⟩, ⟨rfl, rfl, trivial⟩⟩
    · intro _
      refine xs_plain (E := EE []) ?_
      refine lx_move rfl rfl rfl ?_
      refine lx_bin rfl rfl (fun _ => rfl) (fun _ => bin_rem_i _ _ _ (by decide)) rfl rfl ?_
      refine lx_assign rfl rfl rfl ?_
      refine lx_nil ?_
      refine x_join (ι := Unit) (fun _ => [(12, I (((n3 % 6).toNat : Nat) : Int)), (11, I (((n2 % 6).toNat : Nat) : Int)), (2, I n2), (9, .pointer (some ⟨b9, 0, none⟩)), (10, .pointer (some ⟨b10, 0, none⟩))]) (fun _ => [(9, b9, ((fe (SIX bs0).1.1 ++ fe (SIX bs0).1.2) ++ ((fe (SIX bs0).2.1.1 ++ fe (SIX bs0).2.1.2) ++ (fe (SIX bs0).2.2.1 ++ fe (SIX bs0).2.2.2))).map U64, 32), (10, b10, ((fe (SIX bs1).1.1 ++ fe (SIX bs1).1.2) ++ ((fe (SIX bs1).2.1.1 ++ fe (SIX bs1).2.1.2) ++ (fe (SIX bs1).2.2.1 ++ fe (SIX bs1).2.2.2))).map U64, 32)]) hGF ?_ ?_
      · skip
        refine xs_plain (E := EE []) ?_
        refine lx_move rfl rfl rfl ?_
        refine lx_bin rfl rfl (fun _ => rfl) (fun _ => bin_lss_i _ _ _) rfl rfl ?_
        refine lx_nil ?_
        refine x_if rfl (fun hc => ?_) (fun hc => ?_)
        · have ht := of_decide_eq_true hc
          refine x_plain (E := EE []) ?_
          refine lx_move rfl rfl rfl ?_
          refine lx_bin rfl rfl (fun _ => rfl) (fun _ => bin_add_i _ _ _ (tm6_in n3 ht)) rfl rfl ?_
          refine lx_assign rfl rfl rfl ?_
          refine lx_nil ?_
          refine kseq_n ?_
          exact ⟨rfl, (), _, rfl, ⟨congrArg (fun z => some (I z)) (tm6_y n3 ht), rfl, rfl, rfl, rfl, trivial⟩, ⟨rfl, rfl, trivial⟩⟩
        · have ht := of_decide_eq_false hc
          refine x_skip ?_
          refine kseq_n ?_
          exact ⟨rfl, (), _, rfl, ⟨congrArg (fun z => some (I z)) (tm6_n n3 ht), rfl, rfl, rfl, rfl, trivial⟩, ⟨rfl, rfl, trivial⟩⟩
      · intro _
        refine xs_drawnT (E := EE []) [(37, [9], []), (38, [2], []), (39, [36, 37], [0, 1]), (40, [9], []), (41, [11], []), (42, [39, 40], [3, 4, 2]), (43, [38, 41], [2, 5, 5]), (44, [42], [6, 6]), (45, [9, 43], [7]), (46, [44, 43], [8, 7, 7]), (47, [9, 43], [7]), (48, [45, 46, 43], [9, 10, 9, 7]), (49, [43, 47], [7, 11]), (50, [48], [12, 11]), (51, [9, 49], [13]), (52, [11, 49], [13]), (53, [50, 51, 49], [14, 15, 13, 13]), (54, [12, 49], [13]), (55, [52, 53, 49], [16, 17, 16, 13]), (56, [9, 49], [13]), (57, [11, 49], [13]), (58, [12, 49], [13]), (59, [56, 57, 49], [20, 21, 13]), (60, [55, 58, 49], [19, 22, 18, 13]), (61, [54, 59, 49], [18, 23, 23, 13]), (62, [49, 60], [13, 24]), (63, [61], [25, 24]), (64, [9, 62], [26]), (65, [10, 62], [26]), (66, [63, 64, 62], [27, 28, 26, 26]), (67, [11, 62], [26]), (68, [65, 66, 62], [29, 30, 29, 26]), (69, [9, 62], [26]), (70, [11, 62], [26]), (71, [68, 69, 62], [32, 33, 31, 26]), (72, [10, 62], [26]), (73, [11, 62], [26]), (74, [71, 72, 62], [35, 36, 34, 26]), (75, [70, 73, 62], [34, 37, 37, 26]), (76, [67, 74, 62], [31, 38, 38, 26]), (77, [62, 75], [26, 39]), (78, [76], [40, 39]), (79, [9, 77], [41]), (80, [10, 77], [41]), (81, [78, 79, 77], [42, 43, 41, 41]), (82, [11, 77], [41]), (83, [80, 81, 77], [44, 45, 44, 41]), (84, [9, 77], [41]), (85, [11, 77], [41]), (86, [83, 84, 77], [47, 48, 46, 41]), (87, [10, 77], [41]), (88, [11, 77], [41]), (89, [86, 87, 77], [50, 51, 49, 41]), (90, [85, 88, 77], [49, 52, 52, 41]), (91, [82, 89, 77], [46, 53, 53, 41]), (92, [77, 90], [41, 54]), (93, [91], [55, 54]), (94, [9, 92], [56]), (95, [93, 92], [57, 56, 56]), (96, [94, 92], [58, 58, 56]), (97, [9, 92], [56]), (98, [96, 92], [60, 59, 56]), (99, [97, 92], [61, 61, 56]), (100, [95, 98, 92], [59, 62, 56]), (101, [92, 99], [56, 63]), (9, [100], [64, 62, 0, 1, 2, 3, 4, 5, 6, 7, 8, 9, 10, 11, 12, 13, 14, 15, 16, 17, 18, 19, 20, 21, 22, 23, 24, 25, 26, 27, 28, 29, 30, 31, 32, 33, 34, 35, 36, 37, 38, 39, 40, 41, 42, 43, 44, 45, 46, 47, 48, 49, 50, 51, 52, 53, 54, 55, 56, 57, 58, 59, 60, 61, 62, 63, 64])] mixed (by kernel_rfl) (by kernel_rfl) (by kernel_rfl) (by kernel_rfl) (by kernel_rfl) ?_
        refine lx_loada 9 rfl rfl Tryd.isAgg32 Tryd.sizeOf32 (by simp) rfl rfl ?_
        refine lx_move rfl rfl rfl ?_
        refine lx_call rfl rfl ent15 (hF _ n2 hn2) rfl rfl ?_
        refine lx_loada 9 rfl rfl Tryd.isAgg32 Tryd.sizeOf32 (by simp) rfl rfl ?_
        refine lx_move rfl rfl rfl ?_
        refine lx_call rfl rfl ent15 (frobN hF _ (n2 % 6).toNat (by omega)) rfl rfl ?_
        refine lx_callB true rfl rfl ent9 (k6equal _ _) (decide_eq_true (rfl)) rfl rfl ?_
        refine lx_move rfl rfl rfl ?_
        refine lx_loada 9 rfl rfl Tryd.isAgg32 Tryd.sizeOf32 (by simp) rfl rfl ?_
        refine lx_call rfl rfl ent15 (frobN hF _ 0 (by decide)) rfl rfl ?_
        refine lx_loada 9 rfl rfl Tryd.isAgg32 Tryd.sizeOf32 (by simp) rfl rfl ?_
        refine lx_callB true rfl rfl ent9 (k6equal _ _) (decide_eq_true (rfl)) rfl rfl ?_
        refine lx_pick rfl rfl rfl rfl rfl ?_
        refine lx_move rfl rfl rfl ?_
        refine lx_loada 9 rfl rfl Tryd.isAgg32 Tryd.sizeOf32 (by simp) rfl rfl ?_
        refine lx_move rfl rfl rfl ?_
        refine lx_call rfl rfl ent15 (frobN hF _ (n2 % 6).toNat (by omega)) rfl rfl ?_
        refine lx_move rfl rfl rfl ?_
        refine lx_call rfl rfl ent15 (frobN hF _ (n3 % 6).toNat (by omega)) rfl rfl ?_
        refine lx_loada 9 rfl rfl Tryd.isAgg32 Tryd.sizeOf32 (by simp) rfl rfl ?_
        refine lx_move rfl rfl rfl ?_
        refine lx_move rfl rfl rfl ?_
        refine lx_bin (v := I (((n2 % 6).toNat + (n3 % 6).toNat : Nat) : Int)) rfl rfl (fun _ => rfl) (fun _ => (bin_add_i _ _ _ (by unfold inI; omega)).trans rfl) rfl rfl ?_
        refine lx_call rfl rfl ent15 (frobN hF _ ((n2 % 6).toNat + (n3 % 6).toNat) (by omega)) rfl rfl ?_
        refine lx_callB true rfl rfl ent9 (k6equal _ _) (decide_eq_true ((frn_add _ _ _).symm)) rfl rfl ?_
        refine lx_pick rfl rfl rfl rfl rfl ?_
        refine lx_move rfl rfl rfl ?_
        refine lx_loada 9 rfl rfl Tryd.isAgg32 Tryd.sizeOf32 (by simp) rfl rfl ?_
        refine lx_loada 10 rfl rfl Tryd.isAgg32 Tryd.sizeOf32 (by simp) rfl rfl ?_
        refine lx_call rfl rfl ent10 (k6mul _ _) rfl rfl ?_
        refine lx_move rfl rfl rfl ?_
        refine lx_call rfl rfl ent15 (frobN hF _ (n2 % 6).toNat (by omega)) rfl rfl ?_
        refine lx_loada 9 rfl rfl Tryd.isAgg32 Tryd.sizeOf32 (by simp) rfl rfl ?_
        refine lx_move rfl rfl rfl ?_
        refine lx_call rfl rfl ent15 (frobN hF _ (n2 % 6).toNat (by omega)) rfl rfl ?_
        refine lx_loada 10 rfl rfl Tryd.isAgg32 Tryd.sizeOf32 (by simp) rfl rfl ?_
        refine lx_move rfl rfl rfl ?_
        refine lx_call rfl rfl ent15 (frobN hF _ (n2 % 6).toNat (by omega)) rfl rfl ?_
        refine lx_call rfl rfl ent10 (k6mul _ _) rfl rfl ?_
        refine lx_callB true rfl rfl ent9 (k6equal _ _) (decide_eq_true (frn_mul _ _ _)) rfl rfl ?_
        refine lx_pick rfl rfl rfl rfl rfl ?_
        refine lx_move rfl rfl rfl ?_
        refine lx_loada 9 rfl rfl Tryd.isAgg32 Tryd.sizeOf32 (by simp) rfl rfl ?_
        refine lx_loada 10 rfl rfl Tryd.isAgg32 Tryd.sizeOf32 (by simp) rfl rfl ?_
        refine lx_call rfl rfl ent8 (k6add _ _) rfl rfl ?_
        refine lx_move rfl rfl rfl ?_
        refine lx_call rfl rfl ent15 (frobN hF _ (n2 % 6).toNat (by omega)) rfl rfl ?_
        refine lx_loada 9 rfl rfl Tryd.isAgg32 Tryd.sizeOf32 (by simp) rfl rfl ?_
        refine lx_move rfl rfl rfl ?_
        refine lx_call rfl rfl ent15 (frobN hF _ (n2 % 6).toNat (by omega)) rfl rfl ?_
        refine lx_loada 10 rfl rfl Tryd.isAgg32 Tryd.sizeOf32 (by simp) rfl rfl ?_
        refine lx_move rfl rfl rfl ?_
        refine lx_call rfl rfl ent15 (frobN hF _ (n2 % 6).toNat (by omega)) rfl rfl ?_
        refine lx_call rfl rfl ent8 (k6add _ _) rfl rfl ?_
        refine lx_callB true rfl rfl ent9 (k6equal _ _) (decide_eq_true (frn_sum _ _ _)) rfl rfl ?_
        refine lx_pick rfl rfl rfl rfl rfl ?_
        refine lx_move rfl rfl rfl ?_
        refine lx_loada 9 rfl rfl Tryd.isAgg32 Tryd.sizeOf32 (by simp) rfl rfl ?_
        refine lx_call rfl rfl ent15 (frobN hF _ 1 (by decide)) rfl rfl ?_
        refine lx_call rfl rfl ent16 (refs6 _) rfl rfl ?_
        refine lx_loada 9 rfl rfl Tryd.isAgg32 Tryd.sizeOf32 (by simp) rfl rfl ?_
        refine lx_call rfl rfl ent16 (refs6 _) rfl rfl ?_
        refine lx_call rfl rfl ent17 (t5frob _ 1 (by decide)) rfl rfl ?_
        refine lx_binB true rfl rfl (fun _ => eqg45 _ _ _ _ _ _) (fun w => eqv45 _ _ (by simp) (by simp) w) (q_frob _) rfl rfl ?_
        refine lx_pick rfl rfl rfl rfl rfl ?_
        refine lx_assign rfl rfl rfl ?_
        refine lx_nil ?_
        refine x_ret ?_
        repeat (first | refine kseq_ret ?_ | refine kblk_ret ?_)
        exact kret_tmp rfl rfl (fun w hw => ⟨rfl, hp_below hw⟩)
end Go.Proofs.YtpigcehbafcdkaaDoor
