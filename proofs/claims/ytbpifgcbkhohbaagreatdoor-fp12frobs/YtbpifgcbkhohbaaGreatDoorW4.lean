/-
  The law Fp12Frobs.
-/
import Derived.Test.YtbpifgcbkhohbaaGreatDoorW3
import Derived.Test.YtbpifgcbkhohbaaGreatDoorV7
namespace Go.Proofs.YtbpifgcbkhohbaaGreatDoor
open Go.RowKit
set_option maxRecDepth 100000
set_option maxHeartbeats 1000000
attribute [local simp] fe_len nm_len AS_len SS_len MONT_len RM_len FRs_len BYs_len by48_len PLl TWOl ONEl N1l IVPl HFPl RTPl FL_len SP_len fe2_len SP2_len FM_len FF_len
attribute [local simp] ff_len RW_len

theorem tm12 (n : Int) : n.tmod 12 = n % 12 ∨ n.tmod 12 = n % 12 - 12 := by
  rw [Int.tmod_eq_emod]
  split
  · left; omega
  · right; rfl
theorem tm12_y (n : Int) (h : n.tmod 12 < 0) : n.tmod 12 + 12 = (((n % 12).toNat : Nat) : Int) := by have := tm12 n; omega
theorem tm12_n (n : Int) (h : ¬ n.tmod 12 < 0) : n.tmod 12 = (((n % 12).toNat : Nat) : Int) := by have := tm12 n; omega
theorem tm12_in (n : Int) (h : n.tmod 12 < 0) : inI (n.tmod 12 + 12) := by have := tm12 n; unfold inI; omega
/-- What is asked of the program's Frob. -/
abbrev FrobOk : Prop := ∀ (x : W12) (n : Int), inI n → Pure Tryz.prog Gt 23 [EV12 x, I n] (EV12 (fn12 x (n % 12).toNat))
theorem frobN (hF : FrobOk) (x : W12) (k : Nat) (hk : k ≤ 1000) : Pure Tryz.prog Gt 23 [EV12 x, I (k : Int)] (EV12 (fn12 x k)) := by
  have h := hF x (k : Int) (by unfold inI; omega)
  rw [show ((k : Int) % 12).toNat = k % 12 by omega, fn12_mod] at h
  exact h
theorem q_frob (x : W12) : decide (FM (FF (p12 (fn12 x 1))) 6 = FM (FF (FRn (p12 x) 1)) 6) = true := eqT (tq_FRn (p12 x) 0).symm
theorem k_lt (n : Int) : (n % 12).toNat < 12 := by omega
theorem frobs7 (e0 : Option Addr) (cap0 : Nat) (bs0 : List (BitVec 8)) (hcap0 : bs0.length ≤ cap0) (e1 : Option Addr) (cap1 : Nat) (bs1 : List (BitVec 8)) (hcap1 : bs1.length ≤ cap1) (n2 n3 : Int) (hn2 : inI n2) (hF : FrobOk) (w : World) (hw : Gt w) (hb0 : BytesAt w e0 bs0) (hb1 : BytesAt w e1 bs1) :
    Calls Tryz.prog 4 [.slice e0 bs0.length cap0, .slice e1 bs1.length cap1, I n2, I n3].toArray w (fun r w' => r = .returned (.bool true) ∧ Grow w w') := by
  have hGF : BOk Gt (pl w) := gt_low.plain hw
  refine calls_of_X (G := Gt) Tryz.func4 rfl rfl (Hp (pl w) []) (hp_refl (pl w) trivial rides_true) (good_hp hGF) ?_
  refine xs_plain (E := EE []) ?_
  refine lx_assign rfl rfl rfl ?_
  refine lx_nil ?_
  refine x_seq ?_
  refine xs_plain (E := EE []) ?_
  refine lx_callB true rfl rfl ent6 (known7) (rfl) rfl rfl ?_
  refine lx_un rfl (fun _ => un_not _) rfl rfl ?_
  refine lx_nil ?_
  refine x_false rfl ?_
  refine x_skip ?_
  refine x_seq ?_
  refine xs_plain (E := EE []) ?_
  refine lx_move rfl rfl rfl ?_
  refine lx_move rfl rfl rfl ?_
  refine lx_bslV 940 (SVl [(e0, bs0.length, cap0), (e1, bs1.length, cap1)]) hGF rfl rfl rfl (by decide) (by decide) Tryz.underlying58 Tryz.sizeOf22 Tryz.zeroValue22 rfl rfl rfl ?_
  intro b940
  refine lx_callC rfl rfl ent7 (fun w' hC hG => light_calls b940 2 [(e0, bs0.length, cap0), (e1, bs1.length, cap1)] rfl (by decide) w' hG (hp_row (n := 940) rfl w' hC)) rfl rfl ?_
  refine lx_un rfl (fun _ => un_not _) rfl rfl ?_
  refine lx_nil ?_
  refine x_if rfl (fun hc => ?_) (fun hc => ?_)
  · skip
    refine xs_plain (E := EE []) ?_
    refine lx_assign rfl rfl rfl ?_
    refine lx_nil ?_
    refine x_ret ?_
    repeat (first | refine kseq_ret ?_ | refine kblk_ret ?_)
    exact kret_tmp rfl rfl (fun w hw => ⟨rfl, hp_below hw⟩)
  · have hl : ∀ v ∈ [(e0, bs0.length, cap0), (e1, bs1.length, cap1)], v.2.1 ≤ 200 := by simpa using hc
    have hl0 : bs0.length ≤ 200 := hl (e0, bs0.length, cap0) (by simp)
    have hl1 : bs1.length ≤ 200 := hl (e1, bs1.length, cap1) (by simp)
    clear hc hl
    refine x_skip ?_
    refine xs_plain (E := EE []) ?_
    refine lx_move rfl rfl rfl ?_
    refine lx_callC rfl rfl ent8 (fun w' hC hG => twelve_calls e0 cap0 bs0 (by omega) hcap0 w' hG (hb0.grow (hp_below hC))) rfl rfl ?_
    refine lx_move rfl rfl rfl ?_
    refine lx_callC rfl rfl ent8 (fun w' hC hG => twelve_calls e1 cap1 bs1 (by omega) hcap1 w' hG (hb1.grow (hp_below hC))) rfl rfl ?_
    refine lx_allocr 9 hGF zv34 rfl rfl ?_
    intro b9
    refine lx_allocr 10 hGF zv34 rfl rfl ?_
    intro b10
    refine lx_storea 9 hGF rfl rfl rfl Tryz.sizeOf34 (by simp) (by simp) (one_u64 _) rfl ?_
    refine lx_storea 10 hGF rfl rfl rfl Tryz.sizeOf34 (by simp) (by simp) (one_u64 _) rfl ?_
    refine lx_nil ?_
    refine xs_plain (E := EE []) ?_
    refine lx_move rfl rfl rfl ?_
    refine lx_bin rfl rfl (fun _ => rfl) (fun _ => bin_rem_i _ _ _ (by decide)) rfl rfl ?_
    refine lx_assign rfl rfl rfl ?_
    refine lx_nil ?_
    refine x_join (ι := Unit) (fun _ => [(11, I (((n2 % 12).toNat : Nat) : Int)), (2, I n2), (3, I n3), (9, .pointer (some ⟨b9, 0, none⟩)), (10, .pointer (some ⟨b10, 0, none⟩))]) (fun _ => [(9, b9, ((((fe ((TWV bs0).1.1).1 ++ fe ((TWV bs0).1.1).2) ++ ((fe ((TWV bs0).1.2.1).1 ++ fe ((TWV bs0).1.2.1).2) ++ (fe ((TWV bs0).1.2.2).1 ++ fe ((TWV bs0).1.2.2).2))) ++ ((fe ((TWV bs0).2.1).1 ++ fe ((TWV bs0).2.1).2) ++ ((fe ((TWV bs0).2.2.1).1 ++ fe ((TWV bs0).2.2.1).2) ++ (fe ((TWV bs0).2.2.2).1 ++ fe ((TWV bs0).2.2.2).2))))).map U64, 34), (10, b10, ((((fe ((TWV bs1).1.1).1 ++ fe ((TWV bs1).1.1).2) ++ ((fe ((TWV bs1).1.2.1).1 ++ fe ((TWV bs1).1.2.1).2) ++ (fe ((TWV bs1).1.2.2).1 ++ fe ((TWV bs1).1.2.2).2))) ++ ((fe ((TWV bs1).2.1).1 ++ fe ((TWV bs1).2.1).2) ++ ((fe ((TWV bs1).2.2.1).1 ++ fe ((TWV bs1).2.2.1).2) ++ (fe ((TWV bs1).2.2.2).1 ++ fe ((TWV bs1).2.2.2).2))))).map U64, 34)]) hGF ?_ ?_
    · skip
      refine xs_plain (E := EE []) ?_
      refine lx_move rfl rfl rfl ?_
      refine lx_bin rfl rfl (fun _ => rfl) (fun _ => bin_lss_i _ _ _) rfl rfl ?_
      refine lx_nil ?_
      refine x_if rfl (fun hc => ?_) (fun hc => ?_)
      · have ht := of_decide_eq_true hc
        refine x_plain (E := EE []) ?_
        refine lx_move rfl rfl rfl ?_
        refine lx_bin rfl rfl (fun _ => rfl) (fun _ => bin_add_i _ _ _ (tm12_in n2 ht)) rfl rfl ?_
        refine lx_assign rfl rfl rfl ?_
        refine lx_nil ?_
        refine kseq_n ?_
        exact ⟨rfl, (), _, rfl, ⟨congrArg (fun z => some (I z)) (tm12_y n2 ht), rfl, rfl, rfl, rfl, trivial⟩, ⟨rfl, rfl, trivial⟩⟩
      · have ht := of_decide_eq_false hc
        refine x_skip ?_
        refine kseq_n ?_
        exact ⟨rfl, (), _, rfl, ⟨congrArg (fun z => some (I z)) (tm12_n n2 ht), rfl, rfl, rfl, rfl, trivial⟩, ⟨rfl, rfl, trivial⟩⟩
    · intro _
      refine xs_plain (E := EE []) ?_
      refine lx_move rfl rfl rfl ?_
      refine lx_bin rfl rfl (fun _ => rfl) (fun _ => bin_rem_i _ _ _ (by decide)) rfl rfl ?_
      refine lx_assign rfl rfl rfl ?_
      refine lx_nil ?_
      refine x_join (ι := Unit) (fun _ => [(12, I (((n3 % 12).toNat : Nat) : Int)), (11, I (((n2 % 12).toNat : Nat) : Int)), (2, I n2), (9, .pointer (some ⟨b9, 0, none⟩)), (10, .pointer (some ⟨b10, 0, none⟩))]) (fun _ => [(9, b9, ((((fe ((TWV bs0).1.1).1 ++ fe ((TWV bs0).1.1).2) ++ ((fe ((TWV bs0).1.2.1).1 ++ fe ((TWV bs0).1.2.1).2) ++ (fe ((TWV bs0).1.2.2).1 ++ fe ((TWV bs0).1.2.2).2))) ++ ((fe ((TWV bs0).2.1).1 ++ fe ((TWV bs0).2.1).2) ++ ((fe ((TWV bs0).2.2.1).1 ++ fe ((TWV bs0).2.2.1).2) ++ (fe ((TWV bs0).2.2.2).1 ++ fe ((TWV bs0).2.2.2).2))))).map U64, 34), (10, b10, ((((fe ((TWV bs1).1.1).1 ++ fe ((TWV bs1).1.1).2) ++ ((fe ((TWV bs1).1.2.1).1 ++ fe ((TWV bs1).1.2.1).2) ++ (fe ((TWV bs1).1.2.2).1 ++ fe ((TWV bs1).1.2.2).2))) ++ ((fe ((TWV bs1).2.1).1 ++ fe ((TWV bs1).2.1).2) ++ ((fe ((TWV bs1).2.2.1).1 ++ fe ((TWV bs1).2.2.1).2) ++ (fe ((TWV bs1).2.2.2).1 ++ fe ((TWV bs1).2.2.2).2))))).map U64, 34)]) hGF ?_ ?_
      · skip
        refine xs_plain (E := EE []) ?_
        refine lx_move rfl rfl rfl ?_
        refine lx_bin rfl rfl (fun _ => rfl) (fun _ => bin_lss_i _ _ _) rfl rfl ?_
        refine lx_nil ?_
        refine x_if rfl (fun hc => ?_) (fun hc => ?_)
        · have ht := of_decide_eq_true hc
          refine x_plain (E := EE []) ?_
          refine lx_move rfl rfl rfl ?_
          refine lx_bin rfl rfl (fun _ => rfl) (fun _ => bin_add_i _ _ _ (tm12_in n3 ht)) rfl rfl ?_
          refine lx_assign rfl rfl rfl ?_
          refine lx_nil ?_
          refine kseq_n ?_
          exact ⟨rfl, (), _, rfl, ⟨congrArg (fun z => some (I z)) (tm12_y n3 ht), rfl, rfl, rfl, rfl, trivial⟩, ⟨rfl, rfl, trivial⟩⟩
        · have ht := of_decide_eq_false hc
          refine x_skip ?_
          refine kseq_n ?_
          exact ⟨rfl, (), _, rfl, ⟨congrArg (fun z => some (I z)) (tm12_n n3 ht), rfl, rfl, rfl, rfl, trivial⟩, ⟨rfl, rfl, trivial⟩⟩
      · intro _
        refine xs_drawnT (E := EE []) [(37, [9], []), (38, [2], []), (39, [36, 37], [0, 1]), (40, [9], []), (41, [11], []), (42, [39, 40], [3, 4, 2]), (43, [38, 41], [2, 5, 5]), (44, [42], [6, 6]), (45, [9, 43], [7]), (46, [44, 43], [8, 7, 7]), (47, [9, 43], [7]), (48, [45, 46, 43], [9, 10, 9, 7]), (49, [43, 47], [7, 11]), (50, [48], [12, 11]), (51, [9, 49], [13]), (52, [50, 49], [14, 13, 13]), (53, [9, 49], [13]), (54, [52, 49], [16, 15, 13]), (55, [51, 53, 49], [15, 17, 17, 13]), (56, [49, 54], [13, 18]), (57, [55], [19, 18]), (58, [9, 56], [20]), (59, [11, 56], [20]), (60, [57, 58, 56], [21, 22, 20, 20]), (61, [12, 56], [20]), (62, [59, 60, 56], [23, 24, 23, 20]), (63, [9, 56], [20]), (64, [11, 56], [20]), (65, [12, 56], [20]), (66, [63, 64, 56], [27, 28, 20]), (67, [62, 65, 56], [26, 29, 25, 20]), (68, [61, 66, 56], [25, 30, 30, 20]), (69, [56, 67], [20, 31]), (70, [68], [32, 31]), (71, [9, 69], [33]), (72, [10, 69], [33]), (73, [70, 71, 69], [34, 35, 33, 33]), (74, [11, 69], [33]), (75, [72, 73, 69], [36, 37, 36, 33]), (76, [9, 69], [33]), (77, [11, 69], [33]), (78, [75, 76, 69], [39, 40, 38, 33]), (79, [10, 69], [33]), (80, [11, 69], [33]), (81, [78, 79, 69], [42, 43, 41, 33]), (82, [77, 80, 69], [41, 44, 44, 33]), (83, [74, 81, 69], [38, 45, 45, 33]), (84, [69, 82], [33, 46]), (85, [83], [47, 46]), (86, [9, 84], [48]), (87, [85, 84], [49, 48, 48]), (88, [86, 84], [50, 50, 48]), (89, [9, 84], [48]), (90, [88, 84], [52, 51, 48]), (91, [89, 84], [53, 53, 48]), (92, [87, 90, 84], [51, 54, 48]), (93, [84, 91], [48, 55]), (9, [92], [56, 54, 0, 1, 2, 3, 4, 5, 6, 7, 8, 9, 10, 11, 12, 13, 14, 15, 16, 17, 18, 19, 20, 21, 22, 23, 24, 25, 26, 27, 28, 29, 30, 31, 32, 33, 34, 35, 36, 37, 38, 39, 40, 41, 42, 43, 44, 45, 46, 47, 48, 49, 50, 51, 52, 53, 54, 55, 56])] mixed (by kernel_rfl) (by kernel_rfl) (by kernel_rfl) (by kernel_rfl) (by kernel_rfl) ?_
        refine lx_loada 9 rfl rfl Tryz.isAgg34 Tryz.sizeOf34 (by simp) rfl rfl ?_
        refine lx_move rfl rfl rfl ?_
        refine lx_call rfl rfl ent23 (hF _ n2 hn2) rfl rfl ?_
        refine lx_loada 9 rfl rfl Tryz.isAgg34 Tryz.sizeOf34 (by simp) rfl rfl ?_
        refine lx_move rfl rfl rfl ?_
        refine lx_call rfl rfl ent23 (frobN hF _ (n2 % 12).toNat (by omega)) rfl rfl ?_
        refine lx_callB true rfl rfl ent21 (k12equal _ _) (decide_eq_true (rfl)) rfl rfl ?_
        refine lx_move rfl rfl rfl ?_
        refine lx_loada 9 rfl rfl Tryz.isAgg34 Tryz.sizeOf34 (by simp) rfl rfl ?_
        refine lx_call rfl rfl ent23 (frobN hF _ 0 (by decide)) rfl rfl ?_
        refine lx_loada 9 rfl rfl Tryz.isAgg34 Tryz.sizeOf34 (by simp) rfl rfl ?_
        refine lx_callB true rfl rfl ent21 (k12equal _ _) (decide_eq_true (rfl)) rfl rfl ?_
        refine lx_pick rfl rfl rfl rfl rfl ?_
        refine lx_move rfl rfl rfl ?_
        refine lx_loada 9 rfl rfl Tryz.isAgg34 Tryz.sizeOf34 (by simp) rfl rfl ?_
        refine lx_call rfl rfl ent23 (frobN hF _ 6 (by decide)) rfl rfl ?_
        refine lx_loada 9 rfl rfl Tryz.isAgg34 Tryz.sizeOf34 (by simp) rfl rfl ?_
        refine lx_call rfl rfl ent17 (k12conj _) rfl rfl ?_
        refine lx_callB true rfl rfl ent21 (k12equal _ _) (decide_eq_true (fn12_six _)) rfl rfl ?_
        refine lx_pick rfl rfl rfl rfl rfl ?_
        refine lx_move rfl rfl rfl ?_
        refine lx_loada 9 rfl rfl Tryz.isAgg34 Tryz.sizeOf34 (by simp) rfl rfl ?_
        refine lx_move rfl rfl rfl ?_
        refine lx_call rfl rfl ent23 (frobN hF _ (n2 % 12).toNat (by omega)) rfl rfl ?_
        refine lx_move rfl rfl rfl ?_
        refine lx_call rfl rfl ent23 (frobN hF _ (n3 % 12).toNat (by omega)) rfl rfl ?_
        refine lx_loada 9 rfl rfl Tryz.isAgg34 Tryz.sizeOf34 (by simp) rfl rfl ?_
        refine lx_move rfl rfl rfl ?_
        refine lx_move rfl rfl rfl ?_
        refine lx_bin (v := I (((n2 % 12).toNat + (n3 % 12).toNat : Nat) : Int)) rfl rfl (fun _ => rfl) (fun _ => (bin_add_i _ _ _ (by unfold inI; omega)).trans rfl) rfl rfl ?_
        refine lx_call rfl rfl ent23 (frobN hF _ ((n2 % 12).toNat + (n3 % 12).toNat) (by omega)) rfl rfl ?_
        refine lx_callB true rfl rfl ent21 (k12equal _ _) (decide_eq_true ((fn12_add _ _ _).symm)) rfl rfl ?_
        refine lx_pick rfl rfl rfl rfl rfl ?_
        refine lx_move rfl rfl rfl ?_
        refine lx_loada 9 rfl rfl Tryz.isAgg34 Tryz.sizeOf34 (by simp) rfl rfl ?_
        refine lx_loada 10 rfl rfl Tryz.isAgg34 Tryz.sizeOf34 (by simp) rfl rfl ?_
        refine lx_call rfl rfl ent14 (k12mul _ _) rfl rfl ?_
        refine lx_move rfl rfl rfl ?_
        refine lx_call rfl rfl ent23 (frobN hF _ (n2 % 12).toNat (by omega)) rfl rfl ?_
        refine lx_loada 9 rfl rfl Tryz.isAgg34 Tryz.sizeOf34 (by simp) rfl rfl ?_
        refine lx_move rfl rfl rfl ?_
        refine lx_call rfl rfl ent23 (frobN hF _ (n2 % 12).toNat (by omega)) rfl rfl ?_
        refine lx_loada 10 rfl rfl Tryz.isAgg34 Tryz.sizeOf34 (by simp) rfl rfl ?_
        refine lx_move rfl rfl rfl ?_
        refine lx_call rfl rfl ent23 (frobN hF _ (n2 % 12).toNat (by omega)) rfl rfl ?_
        refine lx_call rfl rfl ent14 (k12mul _ _) rfl rfl ?_
        refine lx_callB true rfl rfl ent21 (k12equal _ _) (decide_eq_true (fn12_mul _ _ _)) rfl rfl ?_
        refine lx_pick rfl rfl rfl rfl rfl ?_
        refine lx_move rfl rfl rfl ?_
        refine lx_loada 9 rfl rfl Tryz.isAgg34 Tryz.sizeOf34 (by simp) rfl rfl ?_
        refine lx_call rfl rfl ent23 (frobN hF _ 1 (by decide)) rfl rfl ?_
        refine lx_call rfl rfl ent9 (refs12 _) rfl rfl ?_
        refine lx_loada 9 rfl rfl Tryz.isAgg34 Tryz.sizeOf34 (by simp) rfl rfl ?_
        refine lx_call rfl rfl ent9 (refs12 _) rfl rfl ?_
        refine lx_call rfl rfl ent24 (t5frob _ 1 (by decide)) rfl rfl ?_
        refine lx_binB true rfl rfl (fun _ => eqg42 _ _ _ _ _ _) (fun w => eqv42 _ _ (by simp) (by simp) w) (q_frob _) rfl rfl ?_
        refine lx_pick rfl rfl rfl rfl rfl ?_
        refine lx_assign rfl rfl rfl ?_
        refine lx_nil ?_
        refine x_ret ?_
        repeat (first | refine kseq_ret ?_ | refine kblk_ret ?_)
        exact kret_tmp rfl rfl (fun w hw => ⟨rfl, hp_below hw⟩)
end Go.Proofs.YtbpifgcbkhohbaaGreatDoor
