/-
  The law Fp12Parts.
-/
import Derived.Test.YtbpifgcbkhohbaaDoorW8
namespace Go.Proofs.YtbpifgcbkhohbaaDoor
open Go.RowKit
set_option maxRecDepth 100000
set_option maxHeartbeats 1000000
attribute [local simp] fe_len nm_len AS_len SS_len MONT_len RM_len FRs_len BYs_len by48_len PLl TWOl ONEl N1l IVPl HFPl RTPl FL_len SP_len fe2_len SP2_len FM_len FF_len
attribute [local simp] ff_len RW_len

theorem tmq (n : Int) : n.tmod 6 = n % 6 ∨ n.tmod 6 = n % 6 - 6 := by
  rw [Int.tmod_eq_emod]
  split
  · left; omega
  · right; rfl
theorem own_rows {x : W12} {m : Nat} {c : List Value} (h : c.take (RWS x m).length = RWS x m) (k : Nat) (hk : k < m) : ∀ (j : Nat) v, ((fe (p12 x k).1 ++ fe (p12 x k).2).map U64)[j]? = some v → c[12 * k + j]? = some v := fun j v hv => by
  have h1 := FF_load (p12 x) (p12 x k) m k (12 * k) hk rfl rfl j v hv
  have h2 : (c.take (RWS x m).length)[12 * k + j]? = some v := by rw [h]; exact h1
  rw [List.getElem?_take] at h2
  split at h2
  · exact h2
  · cases h2
section
variable {P : Program} {G : Cls} {ro : Option Nat} {ops : Array Oper} {N : Nat} {ds : List Deferred} {fs : List Nat} {Z : Fr → Cls → Prop} {F : Fr} {C : Cls} {rest : List Oper} {d : Nat} {ty : TypeId} {pos : String} {af : Array Edge} {gd : Option (Nat × Bool)}
theorem lx_isk (k o' : Nat) {t e : TypeId} {len cap sz : Nat} {x ix : Operand} {b o : Nat} {i : Int} (hx : evF F x = some (.slice (some ⟨b, o, none⟩) len cap)) (hi : evF F ix = some (I i)) (hu : P.underlying t = some (.slice e))
    (hs : ∀ w, (sizeOf e).run P w = .ok sz w) (hk : i = (k : Int)) (hb : k < len) (ho : o + k * sz = o') (hw : wantF ops F ⟨some d, .indexAddr t x ix, ty, pos, af, gd⟩ = some true) (hd : Nat.blt d N = true)
    (h : Lx P G ro ops N ds (EE fs) Z rest ((d, .pointer (some ⟨b, o', none⟩)) :: F) C) : Lx P G ro ops N ds (EE fs) Z (⟨some d, .indexAddr t x ix, ty, pos, af, gd⟩ :: rest) F C :=
  lx_is hx hi hu hs (by omega) hw hd (by rw [show i.toNat = k by omega, ho]; exact h)
end
theorem parts7 (e0 : Option Addr) (cap0 : Nat) (bs0 : List (BitVec 8)) (hcap0 : bs0.length ≤ cap0) (n1 : Int) (w : World) (hw : Gt w) (hb0 : BytesAt w e0 bs0) :
    Calls Tryd.prog 4 [.slice e0 bs0.length cap0, I n1].toArray w (fun r w' => r = .returned (.bool true) ∧ Grow w w') := by
  have hGF : BOk Gt (pl w) := gt_low.plain hw
  obtain ⟨q, hq6, hqn⟩ : ∃ q : Nat, q < 6 ∧ (n1 % 6).toNat = q := ⟨_, by omega, rfl⟩
  refine calls_of_X (G := Gt) Tryd.func4 rfl rfl (Hp (pl w) []) (hp_refl (pl w) trivial rides_true) (good_hp hGF) ?_
  refine xs_plain (E := EE [17]) ?_
  refine lx_assign rfl rfl rfl ?_
  refine lx_nil ?_
  refine x_seq ?_
  refine xs_plain (E := EE [17]) ?_
  refine lx_callB true rfl rfl ent6 (known7) (rfl) rfl rfl ?_
  refine lx_un rfl (fun _ => un_not _) rfl rfl ?_
  refine lx_nil ?_
  refine x_false rfl ?_
  refine x_skip ?_
  refine x_seq ?_
  refine xs_plain (E := EE [17]) ?_
  refine lx_move rfl rfl rfl ?_
  refine lx_bslV 940 (SVl [(e0, bs0.length, cap0)]) hGF rfl rfl rfl (by decide) (by decide) Tryd.underlying58 Tryd.sizeOf22 Tryd.zeroValue22 rfl rfl rfl ?_
  intro b940
  refine lx_callC rfl rfl ent7 (fun w' hC hG => light_calls b940 1 [(e0, bs0.length, cap0)] rfl (by decide) w' hG (hp_row (n := 940) rfl w' hC)) rfl rfl ?_
  refine lx_un rfl (fun _ => un_not _) rfl rfl ?_
  refine lx_nil ?_
  refine x_if rfl (fun hc => ?_) (fun hc => ?_)
  · skip
    refine xs_plain (E := EE [17]) ?_
    refine lx_assign rfl rfl rfl ?_
    refine lx_nil ?_
    refine x_ret ?_
    repeat (first | refine kseq_ret ?_ | refine kblk_ret ?_)
    exact kret_tmp rfl rfl (fun w hw => ⟨rfl, hp_below hw⟩)
  · have hl : ∀ v ∈ [(e0, bs0.length, cap0)], v.2.1 ≤ 200 := by simpa using hc
    have hl0 : bs0.length ≤ 200 := hl (e0, bs0.length, cap0) (by simp)
    clear hc hl
    refine x_skip ?_
    refine xs_plain (E := EE [17]) ?_
    refine lx_move rfl rfl rfl ?_
    refine lx_callC rfl rfl ent8 (fun w' hC hG => twelve_calls e0 cap0 bs0 (by omega) hcap0 w' hG (hb0.grow (hp_below hC))) rfl rfl ?_
    refine lx_allocr 5 hGF zv34 rfl rfl ?_
    intro b5
    refine lx_storea 5 hGF rfl rfl rfl Tryd.sizeOf34 (by simp) (by simp) (one_u64 _) rfl ?_
    refine lx_nil ?_
    refine xs_plain (E := EE [17]) ?_
    refine lx_move rfl rfl rfl ?_
    refine lx_bin rfl rfl (fun _ => rfl) (fun _ => bin_rem_i _ _ _ (by decide)) rfl rfl ?_
    refine lx_assign rfl rfl rfl ?_
    refine lx_nil ?_
    refine x_join (ι := Unit) (fun _ => [(1, I (q : Int)), (5, .pointer (some ⟨b5, 0, none⟩))]) (fun _ => [(5, b5, (((fe ((TWV bs0).1.1).1 ++ fe ((TWV bs0).1.1).2) ++ ((fe ((TWV bs0).1.2.1).1 ++ fe ((TWV bs0).1.2.1).2) ++ (fe ((TWV bs0).1.2.2).1 ++ fe ((TWV bs0).1.2.2).2))) ++ ((fe ((TWV bs0).2.1).1 ++ fe ((TWV bs0).2.1).2) ++ ((fe ((TWV bs0).2.2.1).1 ++ fe ((TWV bs0).2.2.1).2) ++ (fe ((TWV bs0).2.2.2).1 ++ fe ((TWV bs0).2.2.2).2)))).map U64, 34)]) hGF ?_ ?_
    · skip
      refine xs_plain (E := EE [17]) ?_
      refine lx_move rfl rfl rfl ?_
      refine lx_bin rfl rfl (fun _ => rfl) (fun _ => bin_lss_i _ _ _) rfl rfl ?_
      refine lx_nil ?_
      refine x_if rfl (fun hc => ?_) (fun hc => ?_)
      · have ht := of_decide_eq_true hc
        refine x_plain (E := EE [17]) ?_
        refine lx_move rfl rfl rfl ?_
        refine lx_bin rfl rfl (fun _ => rfl) (fun _ => bin_add_i _ _ _ (by have := tmq n1; unfold inI; omega)) rfl rfl ?_
        refine lx_assign rfl rfl rfl ?_
        refine lx_nil ?_
        refine kseq_n ?_
        exact ⟨rfl, (), _, rfl, ⟨congrArg (fun z => some (I z)) (by have := tmq n1; omega), rfl, trivial⟩, ⟨rfl, trivial⟩⟩
      · have ht := of_decide_eq_false hc
        refine x_skip ?_
        refine kseq_n ?_
        exact ⟨rfl, (), _, rfl, ⟨congrArg (fun z => some (I z)) (by have := tmq n1; omega), rfl, trivial⟩, ⟨rfl, trivial⟩⟩
    · intro _
      refine xs_plain (E := EE [17]) ?_
      refine lx_loada 5 rfl rfl Tryd.isAgg34 Tryd.sizeOf34 (by simp) rfl rfl ?_
      refine lx_call rfl rfl ent16 (refs12 _) rfl rfl ?_
      refine lx_allocr 6 hGF zv46 rfl rfl ?_
      intro b6
      refine lx_storea 6 hGF rfl rfl rfl Tryd.sizeOf46 (by simp) (by simp) (one_u64 _) rfl ?_
      refine lx_nil ?_
      refine xs_plain (E := EE [17]) ?_
      refine lx_loada 5 rfl rfl Tryd.isAgg34 Tryd.sizeOf34 (by simp) rfl rfl ?_
      refine lx_callE rfl rfl ent17 rfl rfl (fun w' hw' => (walk_calls (TWV bs0) 6 (by omega) (by omega) w' (hGF.g _ _ _ hw')).mono fun e' w'' h => ?_)
      obtain ⟨b100, c100, cap100, rfl, hg, h1, ho, ht100⟩ := h
      refine ⟨_, _, rfl, good_hp hGF, hw'.news rides_true hg [(100, b100, c100, 30)] ?_ inj_one, ?_⟩
      · intro n' b' c' t' hl
        rcases lkB_cons hl with ⟨_, e⟩ | ⟨_, hl⟩
        · cases e; exact ⟨h1, ho⟩
        · cases hl
      clear hw' hg h1 ho
      refine lx_move rfl rfl rfl ?_
      refine lx_ext rfl rfl rfl rfl ?_
      refine lx_ext rfl rfl rfl rfl ?_
      refine lx_assign rfl rfl rfl ?_
      refine lx_assign rfl rfl rfl ?_
      refine lx_nil ?_
      refine xs_plain (E := EE [17]) ?_
      refine lx_loada 5 rfl rfl Tryd.isAgg34 Tryd.sizeOf34 (by simp) rfl rfl ?_
      refine lx_move rfl rfl rfl ?_
      refine lx_bin (v := I ((q + 1 : Nat) : Int)) rfl rfl (fun _ => rfl) (fun _ => (bin_add_i _ _ _ (by unfold inI; omega)).trans rfl) rfl rfl ?_
      refine lx_callE rfl rfl ent17 rfl rfl (fun w' hw' => (walk_calls (TWV bs0) (q + 1) (by omega) (by omega) w' (hGF.g _ _ _ hw')).mono fun e' w'' h => ?_)
      obtain ⟨b101, c101, cap101, rfl, hg, h1, ho, ht101⟩ := h
      refine ⟨_, _, rfl, good_hp hGF, hw'.news rides_true hg [(101, b101, c101, 30)] ?_ inj_one, ?_⟩
      · intro n' b' c' t' hl
        rcases lkB_cons hl with ⟨_, e⟩ | ⟨_, hl⟩
        · cases e; exact ⟨h1, ho⟩
        · cases hl
      clear hw' hg h1 ho
      refine lx_move rfl rfl rfl ?_
      refine lx_ext rfl rfl rfl rfl ?_
      refine lx_ext rfl rfl rfl rfl ?_
      refine lx_assign rfl rfl rfl ?_
      refine lx_assign rfl rfl rfl ?_
      refine lx_nil ?_
      refine x_seq ?_
      refine xs_plain (E := EE [17]) ?_
      refine lx_move rfl rfl rfl ?_
      refine lx_un rfl (fun _ => un_not _) rfl rfl ?_
      refine lx_move rfl rfl rfl ?_
      refine lx_move rfl rfl rfl ?_
      refine lx_un rfl (fun _ => un_not _) rfl rfl ?_
      refine lx_pick rfl rfl rfl rfl rfl ?_
      refine lx_move rfl rfl rfl ?_
      refine lx_move rfl rfl rfl ?_
      refine lx_len (n := ((6 : Nat) : Int)) rfl (fun _ => len_slice Tryd.underlying48 _ _ _ _) rfl rfl ?_
      refine lx_binB false rfl rfl (fun _ => rfl) (fun _ => bin_neq_i _ _ _) (by simp) rfl rfl ?_
      refine lx_pick rfl rfl rfl rfl rfl ?_
      refine lx_move rfl rfl rfl ?_
      refine lx_move rfl rfl rfl ?_
      refine lx_len (n := ((q + 1 : Nat) : Int)) rfl (fun _ => len_slice Tryd.underlying48 _ _ _ _) rfl rfl ?_
      refine lx_move rfl rfl rfl ?_
      refine lx_bin (v := I ((q + 1 : Nat) : Int)) rfl rfl (fun _ => rfl) (fun _ => (bin_add_i _ _ _ (by unfold inI; omega)).trans rfl) rfl rfl ?_
      refine lx_binB false rfl rfl (fun _ => rfl) (fun _ => bin_neq_i _ _ _) (by simp) rfl rfl ?_
      refine lx_pick rfl rfl rfl rfl rfl ?_
      refine lx_nil ?_
      refine x_false rfl ?_
      refine x_skip ?_
      refine x_seq ?_
      refine xs_plain (E := EE [17]) ?_
      refine lx_assign rfl rfl rfl ?_
      refine lx_nil ?_
      refine x_block ?_
      refine x_for (ι := { i : Nat // i ≤ 6 }) (fun y => [(1, I (q : Int)), (6, .pointer (some ⟨b6, 0, none⟩)), (7, .slice (some ⟨b100, 0, none⟩) 6 cap100), (9, .slice (some ⟨b101, 0, none⟩) (q + 1) cap101), (11, I (y.1 : Int))]) (fun y => [(6, b6, (FM (FF (p12 (TWV bs0))) 6).map U64, 46), (100, b100, c100, 30), (101, b101, c101, 30)]) (fun y => 6 - y.1) ⟨0, Nat.zero_le _⟩ hGF ⟨rfl, rfl, rfl, rfl, rfl, trivial⟩ ⟨rfl, rfl, rfl, trivial⟩ ?_
      rintro ⟨i, hi⟩
      dsimp only
      by_cases hq : i ≤ q
      · skip
        refine x_seq ?_
        refine xs_plain (E := EE [17]) ?_
        refine lx_move rfl rfl rfl ?_
        refine lx_bin rfl rfl (fun _ => rfl) (fun _ => bin_lss_i _ _ _) rfl rfl ?_
        refine lx_nil ?_
        refine x_if rfl (fun hc => ?_) (fun hc => ?_)
        · have hi2 : i < 6 := by simp at hc; omega
          refine x_skip ?_
          refine x_seq ?_
          refine x_block ?_
          refine xs_drawn (E := EE [17]) mixed (by kernel_rfl) (by kernel_rfl) (by kernel_rfl) ?_
          refine lx_move rfl rfl rfl ?_
          refine lx_move rfl rfl rfl ?_
          refine lx_isk i (12 * i) rfl rfl Tryd.underlying48 Tryd.sizeOf30 (by omega) (by omega) (by omega) rfl rfl ?_
          refine lx_loado 100 ((fe (p12 (TWV bs0) i).1 ++ fe (p12 (TWV bs0) i).2).map U64) rfl rfl Tryd.isAgg30 Tryd.sizeOf30 (by simp) (own_rows ht100 i (by omega)) rfl rfl ?_
          refine lx_move rfl rfl rfl ?_
          refine lx_iak (i) (12 * (i)) rfl rfl Tryd.underlying46 Tryd.sizeOf44 (by omega) (by omega) (by omega) rfl rfl ?_
          refine lx_loado 6 ((fe (p12 (TWV bs0) i).1 ++ fe (p12 (TWV bs0) i).2).map U64) rfl rfl Tryd.isAgg44 Tryd.sizeOf44 (by simp) (FF_load _ (p12 (TWV bs0) i) 6 (i) _ (by omega) rfl (rfl)) rfl rfl ?_
          refine lx_callB true rfl rfl ent18 (same5 _ _) (decide_eq_true rfl) rfl rfl ?_
          refine lx_un rfl (fun _ => un_not _) rfl rfl ?_
          refine lx_move rfl rfl rfl ?_
          refine lx_move rfl rfl rfl ?_
          refine lx_move rfl rfl rfl ?_
          refine lx_binB true rfl rfl (fun _ => rfl) (fun _ => bin_leq_i _ _ _) (decide_eq_true (by omega)) rfl rfl ?_
          refine lx_move rfl rfl rfl ?_
          refine lx_move rfl rfl rfl ?_
          refine lx_move rfl rfl rfl ?_
          refine lx_isk i (12 * i) rfl rfl Tryd.underlying48 Tryd.sizeOf30 (by omega) (by omega) (by omega) rfl rfl ?_
          refine lx_loado 101 ((fe (p12 (TWV bs0) i).1 ++ fe (p12 (TWV bs0) i).2).map U64) rfl rfl Tryd.isAgg30 Tryd.sizeOf30 (by simp) (own_rows ht101 i (by omega)) rfl rfl ?_
          refine lx_move rfl rfl rfl ?_
          refine lx_move rfl rfl rfl ?_
          refine lx_isk i (12 * i) rfl rfl Tryd.underlying48 Tryd.sizeOf30 (by omega) (by omega) (by omega) rfl rfl ?_
          refine lx_loado 100 ((fe (p12 (TWV bs0) i).1 ++ fe (p12 (TWV bs0) i).2).map U64) rfl rfl Tryd.isAgg30 Tryd.sizeOf30 (by simp) (own_rows ht100 i (by omega)) rfl rfl ?_
          refine lx_callB true rfl rfl ent19 (e2equal _ _) (decide_eq_true rfl) rfl rfl ?_
          refine lx_un rfl (fun _ => un_not _) rfl rfl ?_
          refine lx_pick rfl rfl rfl rfl rfl ?_
          refine lx_pick rfl rfl rfl rfl rfl ?_
          refine lx_nil ?_
          refine x_false rfl ?_
          refine x_skip ?_
          refine x_plain (E := EE [17]) ?_
          refine lx_move rfl rfl rfl ?_
          refine lx_bin rfl rfl (fun _ => rfl) (fun _ => bin_add_i _ _ _ (by unfold inI; omega)) rfl rfl ?_
          refine lx_assign rfl rfl rfl ?_
          refine lx_nil ?_
          repeat (refine kblk_n ?_)
          refine kseq_n ?_
          exact ⟨rfl, ⟨i + 1, by omega⟩, _, by show 6 - (i + 1) < 6 - i; omega, rfl, ⟨rfl, rfl, rfl, rfl, rfl, trivial⟩, ⟨rfl, rfl, rfl, trivial⟩⟩
        · obtain rfl : i = 6 := by simp at hc; omega
          refine x_exit ?_
          refine xs_plain (E := EE [17]) ?_
          refine lx_assign rfl rfl rfl ?_
          refine lx_nil ?_
          refine x_ret ?_
          repeat (first | refine kseq_ret ?_ | refine kblk_ret ?_)
          exact kret_tmp rfl rfl (fun w hw => ⟨rfl, hp_below hw⟩)
      · skip
        refine x_seq ?_
        refine xs_plain (E := EE [17]) ?_
        refine lx_move rfl rfl rfl ?_
        refine lx_bin rfl rfl (fun _ => rfl) (fun _ => bin_lss_i _ _ _) rfl rfl ?_
        refine lx_nil ?_
        refine x_if rfl (fun hc => ?_) (fun hc => ?_)
        · have hi2 : i < 6 := by simp at hc; omega
          refine x_skip ?_
          refine x_seq ?_
          refine x_block ?_
          refine xs_drawn (E := EE [17]) mixed (by kernel_rfl) (by kernel_rfl) (by kernel_rfl) ?_
          refine lx_move rfl rfl rfl ?_
          refine lx_move rfl rfl rfl ?_
          refine lx_isk i (12 * i) rfl rfl Tryd.underlying48 Tryd.sizeOf30 (by omega) (by omega) (by omega) rfl rfl ?_
          refine lx_loado 100 ((fe (p12 (TWV bs0) i).1 ++ fe (p12 (TWV bs0) i).2).map U64) rfl rfl Tryd.isAgg30 Tryd.sizeOf30 (by simp) (own_rows ht100 i (by omega)) rfl rfl ?_
          refine lx_move rfl rfl rfl ?_
          refine lx_iak (i) (12 * (i)) rfl rfl Tryd.underlying46 Tryd.sizeOf44 (by omega) (by omega) (by omega) rfl rfl ?_
          refine lx_loado 6 ((fe (p12 (TWV bs0) i).1 ++ fe (p12 (TWV bs0) i).2).map U64) rfl rfl Tryd.isAgg44 Tryd.sizeOf44 (by simp) (FF_load _ (p12 (TWV bs0) i) 6 (i) _ (by omega) rfl (rfl)) rfl rfl ?_
          refine lx_callB true rfl rfl ent18 (same5 _ _) (decide_eq_true rfl) rfl rfl ?_
          refine lx_un rfl (fun _ => un_not _) rfl rfl ?_
          refine lx_move rfl rfl rfl ?_
          refine lx_move rfl rfl rfl ?_
          refine lx_move rfl rfl rfl ?_
          refine lx_binB false rfl rfl (fun _ => rfl) (fun _ => bin_leq_i _ _ _) (decide_eq_false (by omega)) rfl rfl ?_
          refine lx_move rfl rfl rfl ?_
          refine lx_skip rfl rfl rfl ?_
          refine lx_skip rfl rfl rfl ?_
          refine lx_skip rfl rfl rfl ?_
          refine lx_skip rfl rfl rfl ?_
          refine lx_skip rfl rfl rfl ?_
          refine lx_skip rfl rfl rfl ?_
          refine lx_skip rfl rfl rfl ?_
          refine lx_skip rfl rfl rfl ?_
          refine lx_skip rfl rfl rfl ?_
          refine lx_skip rfl rfl rfl ?_
          refine lx_pick rfl rfl rfl rfl rfl ?_
          refine lx_pick rfl rfl rfl rfl rfl ?_
          refine lx_nil ?_
          refine x_false rfl ?_
          refine x_skip ?_
          refine x_plain (E := EE [17]) ?_
          refine lx_move rfl rfl rfl ?_
          refine lx_bin rfl rfl (fun _ => rfl) (fun _ => bin_add_i _ _ _ (by unfold inI; omega)) rfl rfl ?_
          refine lx_assign rfl rfl rfl ?_
          refine lx_nil ?_
          repeat (refine kblk_n ?_)
          refine kseq_n ?_
          exact ⟨rfl, ⟨i + 1, by omega⟩, _, by show 6 - (i + 1) < 6 - i; omega, rfl, ⟨rfl, rfl, rfl, rfl, rfl, trivial⟩, ⟨rfl, rfl, rfl, trivial⟩⟩
        · obtain rfl : i = 6 := by simp at hc; omega
          refine x_exit ?_
          refine xs_plain (E := EE [17]) ?_
          refine lx_assign rfl rfl rfl ?_
          refine lx_nil ?_
          refine x_ret ?_
          repeat (first | refine kseq_ret ?_ | refine kblk_ret ?_)
          exact kret_tmp rfl rfl (fun w hw => ⟨rfl, hp_below hw⟩)
end Go.Proofs.YtbpifgcbkhohbaaDoor
