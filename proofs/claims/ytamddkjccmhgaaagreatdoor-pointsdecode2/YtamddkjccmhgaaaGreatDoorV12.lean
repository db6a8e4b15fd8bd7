/-
  The laws PointsDecode1, PointsDecode2.
-/
import Derived.Test.YtamddkjccmhgaaaGreatDoorV11
import Derived.Test.YtamddkjccmhgaaaGreatDoorX5
namespace Go.Proofs.YtamddkjccmhgaaaGreatDoor
open Go.RowKit
set_option maxRecDepth 100000
set_option maxHeartbeats 1000000
attribute [local simp] fe_len nm_len AS_len SS_len MONT_len RM_len FRs_len BYs_len by48_len PLl TWOl ONEl N1l IVPl HFPl RTPl FL_len SP_len fe2_len SP2_len FM_len J1.GL_len J2.GL_len MK_len OR0_len EN1_len EN2_len
theorem rV12 {Q P : Prop} (k : Q) (h : Q → P := by intro k; (refine LY.run ?_); (repeat (first | refine y_move rfl rfl rfl ?_ | refine y_assign rfl rfl rfl ?_ | ((refine ra52 rfl rfl ?_ rfl rfl ?_); (· simp)) | ((refine ra30 rfl rfl ?_ rfl rfl ?_); (· simp)) | ((refine ra40 rfl rfl ?_ rfl rfl ?_); (· simp)) | ((refine sa40 hGF rfl rfl rfl ?_ ?_ (one_u64 _) rfl ?_); (· simp); (· simp)) | ((refine sa46 hGF rfl rfl rfl ?_ ?_ (one_u8 _) rfl ?_); (· simp); (· simp)) | ((refine sa52 hGF rfl rfl rfl ?_ ?_ (one_u64 _) rfl ?_); (· simp); (· simp)) | ((refine sa56 hGF rfl rfl rfl ?_ ?_ (one_u8 _) rfl ?_); (· simp); (· simp)) | ((refine sa30 hGF rfl rfl rfl ?_ ?_ (one_u64 _) rfl ?_); (· simp); (· simp)) | refine y_ext rfl rfl rfl rfl ?_ | refine y_call (f := 8) rfl rfl ent8 known10 rfl rfl ?_ | refine y_call (f := 13) rfl rfl ent13 (J1.refs8 _) rfl rfl ?_ | refine y_call (f := 17) rfl rfl ent17 (J2.refs8 _) rfl rfl ?_ | refine y_pick rfl rfl rfl rfl rfl ?_)); (first | refine y_nil ?_ | refine LY.mk ?_); exact k) : P := h k
theorem pV12 {Q P : Prop} (k : Q) (h : Q → P := by intro k; (refine xp ?_); (refine rV12 ?_); exact k) : P := h k

theorem eqp2 {P : Pt W2} (h : E2w.onP P) : decide ((E1w.jaF (RJ2 P) ((RJ2 P).1, ng2 (RJ2 P).2.1, (RJ2 P).2.2)).2.2 = ze2) = true := (J2.eq_dec h h (RJ2_jr P) (RJ2_jr P)).trans (decide_eq_true rfl)
theorem bytes_eq {xs ys : List (BitVec 8)} (h : xs = ys) (a1 : Option Addr) (len1 cap1 : Nat) (a2 : Option Addr) (len2 cap2 : Nat) (hl1 : xs.length = len1) (hl2 : ys.length = len2) (w : World) (hw : Gt w) (h1 : BytesAt w a1 xs) (h2 : BytesAt w a2 ys) :
    Calls Tryz.prog 12 [.slice a1 len1 cap1, .slice a2 len2 cap2].toArray w (fun e w' => e = .returned (.bool true) ∧ Grow w w') := by
  subst h
  exact bytes_same xs a1 len1 cap1 a2 len2 cap2 hl1 hl2 w hw h1 h2
theorem copy_n (e : Option Addr) (cap : Nat) (w : World) (hw : Gt w) : Calls Tryz.prog 9 [.slice e 0 cap].toArray w (fun r w' => ∃ a k7, r = .returned (.slice a 0 k7) ∧ Grow w w') := by
  have hGF : BOk Gt (pl w) := gt_low.plain hw
  refine calls_of_X (G := Gt) Tryz.func9 rfl rfl (Hp (pl w) []) (hp_refl (pl w) trivial rides_true) (good_hp hGF) ?_
  refine pV12 ?_
  refine pV12 ?_
  refine lx_append (xs := []) (ys := []) 7 hGF rfl rfl Tryz.underlying22 Tryz.underlying22 ti5 (.inl ⟨rfl, rfl, rfl⟩) (fun w' h => bytes_nil w' _) (by decide) rfl rfl (fun _ => ?_) (fun b7 c7 k7 _ _ _ => ?_)
  · refine lx_assign rfl rfl rfl ?_
    refine lx_nil ?_
    refine rt ?_
    exact kret_tmp rfl rfl (fun w hw => ⟨none, 0, rfl, hp_below hw⟩)
  · refine lx_assign rfl rfl rfl ?_
    refine lx_nil ?_
    refine rt ?_
    exact kret_tmp rfl rfl (fun w hw => ⟨some ⟨b7, 0, none⟩, k7, rfl, hp_below hw⟩)
theorem dec2_law (e : Option Addr) (cap : Nat) (bs : List (BitVec 8)) (h0 : 0 < bs.length) (w : World) (hw : Gt w) (hby : BytesAt w e bs) :
    Calls Tryz.prog 4 [.slice e bs.length cap].toArray w (fun r w' => r = .returned (.bool true) ∧ Grow w w') := by
  have hGF : BOk Gt (pl w) := gt_low.plain hw
  by_cases hL : bs.length ≤ 200
  · obtain ⟨c, P, hD⟩ := D2_ex bs
    by_cases hz : c = 0
    · have hbk : EN2 P = bs := by subst hz; exact D2_back hD
      refine calls_of_X (G := Gt) Tryz.func4 rfl rfl (Hp (pl w) []) (hp_refl (pl w) trivial rides_true) (good_hp hGF) ?_
      refine xs_plain (E := EE [9, 2000009]) ?_
      refine rV12 ?_
      refine x_seq ?_
      refine xs_plain (E := EE [9, 2000009]) ?_
      refine rV12 ?_
      refine lx_un rfl (fun _ => un_not _) rfl rfl ?_
      refine lx_nil ?_
      refine x_false rfl ?_
      refine x_skip ?_
      refine x_seq ?_
      refine xs_plain (E := EE [9, 2000009]) ?_
      refine rV12 ?_
      refine lx_len rfl (fun _ => len_slice Tryz.underlying22 _ _ _ _) rfl rfl ?_
      refine lx_binB false rfl rfl (fun _ => rfl) (fun _ => bin_gtr_i _ _ _) (decide_eq_false (by omega)) rfl rfl ?_
      refine lx_nil ?_
      refine x_false rfl ?_
      refine x_skip ?_
      refine xs_plain (E := EE [9, 2000009]) ?_
      refine rV12 ?_
      refine lx_callG rfl rfl ent9 rfl rfl (fun w' hw' => (copy_s e cap bs h0 (by omega) w' (hGF.g _ _ _ hw') (hby.grow (hp_below hw'))).mono fun e' w'' h => ?_)
      obtain ⟨b7, c7, k7, rfl, hg, hb7, hob, q3, q2⟩ := h
      refine ⟨_, _, rfl, good_hp hGF, hw'.news rides_true hg [(33, b7, c7, 5)] ?_ inj_one, hp_fresh rides_true rfl, ?_⟩
      · intro n' b' c' t' hl
        rcases lkB_cons hl with ⟨_, e⟩ | ⟨_, hl⟩
        · cases e; exact ⟨hb7, hob⟩
        · cases hl
      clear hw' hg hb7 hob
      refine rV12 ?_
      refine xs_plain (E := EE [9, 2000009]) ?_
      refine rV12 ?_
      refine lx_callC rfl rfl ent16 (fun w' hC hG => dec2_p _ k7 bs.length bs rfl c P hD q2 w' hG (bytes_pre (hp_row (n := 33) rfl w' hC) q3)) rfl rfl ?_
      refine rV12 ?_
      refine la J2.zv52 fun b4 => ?_
      refine rV12 ?_
      refine xs_plain (E := EE [9, 2000009]) ?_
      refine rV12 ?_
      refine lx_callC rfl rfl ent11 (fun w' hC hG => r9dec2_c e cap bs c P hD w' hG (hby.grow (hp_below hC))) rfl rfl ?_
      refine rV12 ?_
      refine la zv40 fun b6 => ?_
      refine rV12 ?_
      refine x_seq ?_
      refine xs_drawn (E := EE [9, 2000009]) mixed (by kernel_rfl) (by kernel_rfl) (by kernel_rfl) ?_
      refine rV12 ?_
      refine lx_binB false rfl rfl (fun _ => rfl) (fun _ => bin_neq_i _ _ _) (bne_eq_false_iff_eq.2 rfl) rfl rfl ?_
      refine rV12 ?_
      refine lx_callC rfl rfl ent12 (fun w' hC hG => bytes_same bs _ _ _ _ _ _ rfl rfl w' hG (bytes_pre (hp_row (n := 33) rfl w' hC) q3) (hby.grow (hp_below hC))) rfl rfl ?_
      refine lx_un rfl (fun _ => un_not _) rfl rfl ?_
      refine rV12 ?_
      refine lx_callB true rfl rfl ent14 (r9equal _ _) (eqp2 (D2_on hD)) rfl rfl ?_
      refine lx_un rfl (fun _ => un_not _) rfl rfl ?_
      refine rV12 ?_
      refine x_false rfl ?_
      refine x_skip ?_
      refine xs_plain (E := EE [9, 2000009]) ?_
      refine rV12 ?_
      refine lx_call rfl rfl ent18 (enc2_p (cA2 P (D2_on hD))) rfl rfl ?_
      refine la zv56 fun b8 => ?_
      refine rV12 ?_
      refine xs_plain (E := EE [9, 2000009]) ?_
      refine rV12 ?_
      refine lx_binB false rfl rfl (fun _ => rfl) (fun _ => bin_neq_i _ _ _) (bne_eq_false_iff_eq.2 hz) rfl rfl ?_
      refine rV12 ?_
      refine lx_slarr1 (l := 0) (h' := 96) rfl Tryz.underlying56 Tryz.sizeOf5 rfl rfl (by decide) (by decide) rfl rfl ?_
      refine rV12 ?_
      refine lx_callC rfl rfl ent12 (fun w' hC hG => bytes_eq hbk _ 96 _ _ bs.length _ (EN2_len _) rfl w' hG (BytesAt.range (hp_row (n := 8) rfl w' hC)) (hby.grow (hp_below hC))) rfl rfl ?_
      refine rV12 ?_
      refine rt ?_
      exact kret_tmp rfl rfl (fun w hw => ⟨rfl, hp_below hw⟩)
    · skip
      refine calls_of_X (G := Gt) Tryz.func4 rfl rfl (Hp (pl w) []) (hp_refl (pl w) trivial rides_true) (good_hp hGF) ?_
      refine xs_plain (E := EE [9, 2000009]) ?_
      refine rV12 ?_
      refine x_seq ?_
      refine xs_plain (E := EE [9, 2000009]) ?_
      refine rV12 ?_
      refine lx_un rfl (fun _ => un_not _) rfl rfl ?_
      refine lx_nil ?_
      refine x_false rfl ?_
      refine x_skip ?_
      refine x_seq ?_
      refine xs_plain (E := EE [9, 2000009]) ?_
      refine rV12 ?_
      refine lx_len rfl (fun _ => len_slice Tryz.underlying22 _ _ _ _) rfl rfl ?_
      refine lx_binB false rfl rfl (fun _ => rfl) (fun _ => bin_gtr_i _ _ _) (decide_eq_false (by omega)) rfl rfl ?_
      refine lx_nil ?_
      refine x_false rfl ?_
      refine x_skip ?_
      refine xs_plain (E := EE [9, 2000009]) ?_
      refine rV12 ?_
      refine lx_callG rfl rfl ent9 rfl rfl (fun w' hw' => (copy_s e cap bs h0 (by omega) w' (hGF.g _ _ _ hw') (hby.grow (hp_below hw'))).mono fun e' w'' h => ?_)
      obtain ⟨b7, c7, k7, rfl, hg, hb7, hob, q3, q2⟩ := h
      refine ⟨_, _, rfl, good_hp hGF, hw'.news rides_true hg [(33, b7, c7, 5)] ?_ inj_one, hp_fresh rides_true rfl, ?_⟩
      · intro n' b' c' t' hl
        rcases lkB_cons hl with ⟨_, e⟩ | ⟨_, hl⟩
        · cases e; exact ⟨hb7, hob⟩
        · cases hl
      clear hw' hg hb7 hob
      refine rV12 ?_
      refine xs_plain (E := EE [9, 2000009]) ?_
      refine rV12 ?_
      refine lx_callC rfl rfl ent16 (fun w' hC hG => dec2_p _ k7 bs.length bs rfl c P hD q2 w' hG (bytes_pre (hp_row (n := 33) rfl w' hC) q3)) rfl rfl ?_
      refine rV12 ?_
      refine la J2.zv52 fun b4 => ?_
      refine rV12 ?_
      refine xs_plain (E := EE [9, 2000009]) ?_
      refine rV12 ?_
      refine lx_callC rfl rfl ent11 (fun w' hC hG => r9dec2_c e cap bs c P hD w' hG (hby.grow (hp_below hC))) rfl rfl ?_
      refine rV12 ?_
      refine la zv40 fun b6 => ?_
      refine rV12 ?_
      refine x_seq ?_
      refine xs_drawn (E := EE [9, 2000009]) mixed (by kernel_rfl) (by kernel_rfl) (by kernel_rfl) ?_
      refine rV12 ?_
      refine lx_binB false rfl rfl (fun _ => rfl) (fun _ => bin_neq_i _ _ _) (bne_eq_false_iff_eq.2 rfl) rfl rfl ?_
      refine rV12 ?_
      refine lx_callC rfl rfl ent12 (fun w' hC hG => bytes_same bs _ _ _ _ _ _ rfl rfl w' hG (bytes_pre (hp_row (n := 33) rfl w' hC) q3) (hby.grow (hp_below hC))) rfl rfl ?_
      refine lx_un rfl (fun _ => un_not _) rfl rfl ?_
      refine rV12 ?_
      refine lx_callB true rfl rfl ent14 (r9equal _ _) (eqp2 (D2_on hD)) rfl rfl ?_
      refine lx_un rfl (fun _ => un_not _) rfl rfl ?_
      refine rV12 ?_
      refine x_false rfl ?_
      refine x_skip ?_
      refine xs_plain (E := EE [9, 2000009]) ?_
      refine rV12 ?_
      refine lx_call rfl rfl ent18 (enc2_p (cA2 P (D2_on hD))) rfl rfl ?_
      refine la zv56 fun b8 => ?_
      refine rV12 ?_
      refine xs_plain (E := EE [9, 2000009]) ?_
      refine rV12 ?_
      refine lx_binB true rfl rfl (fun _ => rfl) (fun _ => bin_neq_i _ _ _) (bne_iff_ne.2 hz) rfl rfl ?_
      refine rV12 ?_
      refine lx_skip rfl rfl rfl ?_
      refine lx_skip rfl rfl rfl ?_
      refine lx_skip rfl rfl rfl ?_
      refine rV12 ?_
      refine rt ?_
      exact kret_tmp rfl rfl (fun w hw => ⟨rfl, hp_below hw⟩)
  · skip
    refine calls_of_X (G := Gt) Tryz.func4 rfl rfl (Hp (pl w) []) (hp_refl (pl w) trivial rides_true) (good_hp hGF) ?_
    refine xs_plain (E := EE [9, 2000009]) ?_
    refine rV12 ?_
    refine x_seq ?_
    refine xs_plain (E := EE [9, 2000009]) ?_
    refine rV12 ?_
    refine lx_un rfl (fun _ => un_not _) rfl rfl ?_
    refine lx_nil ?_
    refine x_false rfl ?_
    refine x_skip ?_
    refine x_seq ?_
    refine xs_plain (E := EE [9, 2000009]) ?_
    refine rV12 ?_
    refine lx_len rfl (fun _ => len_slice Tryz.underlying22 _ _ _ _) rfl rfl ?_
    refine lx_binB true rfl rfl (fun _ => rfl) (fun _ => bin_gtr_i _ _ _) (decide_eq_true (by omega)) rfl rfl ?_
    refine lx_nil ?_
    refine x_true rfl ?_
    refine xs_plain (E := EE [9, 2000009]) ?_
    refine rV12 ?_
    refine rt ?_
    exact kret_tmp rfl rfl (fun w hw => ⟨rfl, hp_below hw⟩)
theorem D2_nil : D2 [] 100 none := .inl ⟨by decide, rfl, rfl⟩
theorem dec2_law0 (e : Option Addr) (cap : Nat) (w : World) (hw : Gt w) : Calls Tryz.prog 4 [.slice e 0 cap].toArray w (fun r w' => r = .returned (.bool true) ∧ Grow w w') := by
  have hGF : BOk Gt (pl w) := gt_low.plain hw
  refine calls_of_X (G := Gt) Tryz.func4 rfl rfl (Hp (pl w) []) (hp_refl (pl w) trivial rides_true) (good_hp hGF) ?_
  refine xs_plain (E := EE [9, 2000009]) ?_
  refine rV12 ?_
  refine x_seq ?_
  refine xs_plain (E := EE [9, 2000009]) ?_
  refine rV12 ?_
  refine lx_un rfl (fun _ => un_not _) rfl rfl ?_
  refine lx_nil ?_
  refine x_false rfl ?_
  refine x_skip ?_
  refine x_seq ?_
  refine xs_plain (E := EE [9, 2000009]) ?_
  refine rV12 ?_
  refine lx_len rfl (fun _ => len_slice Tryz.underlying22 _ _ _ _) rfl rfl ?_
  refine lx_binB false rfl rfl (fun _ => rfl) (fun _ => bin_gtr_i _ _ _) (rfl) rfl rfl ?_
  refine lx_nil ?_
  refine x_false rfl ?_
  refine x_skip ?_
  refine xs_plain (E := EE [9, 2000009]) ?_
  refine rV12 ?_
  refine lx_callG rfl rfl ent9 rfl rfl (fun w' hw' => (copy_n e cap w' (hGF.g _ _ _ hw')).mono fun e' w'' h => ?_)
  obtain ⟨a, k7, rfl, hg⟩ := h
  refine ⟨_, _, rfl, good_hp hGF, hw'.grow rides_true hg, fun _ h => h, ?_⟩
  clear hw' hg
  refine rV12 ?_
  refine xs_plain (E := EE [9, 2000009]) ?_
  refine rV12 ?_
  refine lx_callC rfl rfl ent16 (fun w' hC hG => dec2_p a k7 0 [] rfl 100 none D2_nil (Nat.zero_le _) w' hG (bytes_nil w' _)) rfl rfl ?_
  refine rV12 ?_
  refine la J2.zv52 fun b4 => ?_
  refine rV12 ?_
  refine xs_plain (E := EE [9, 2000009]) ?_
  refine rV12 ?_
  refine lx_callC rfl rfl ent11 (fun w' hC hG => r9dec2_c e cap [] 100 none D2_nil w' hG (bytes_nil w' _)) rfl rfl ?_
  refine rV12 ?_
  refine la zv40 fun b6 => ?_
  refine rV12 ?_
  refine x_seq ?_
  refine xs_drawn (E := EE [9, 2000009]) mixed (by kernel_rfl) (by kernel_rfl) (by kernel_rfl) ?_
  refine rV12 ?_
  refine lx_binB false rfl rfl (fun _ => rfl) (fun _ => bin_neq_i _ _ _) (rfl) rfl rfl ?_
  refine rV12 ?_
  refine lx_callC rfl rfl ent12 (fun w' hC hG => bytes_same [] _ _ _ _ _ _ rfl rfl w' hG (bytes_nil w' _) (bytes_nil w' _)) rfl rfl ?_
  refine lx_un rfl (fun _ => un_not _) rfl rfl ?_
  refine rV12 ?_
  refine lx_callB true rfl rfl ent14 (r9equal _ _) (eqp2 (P := none) True.intro) rfl rfl ?_
  refine lx_un rfl (fun _ => un_not _) rfl rfl ?_
  refine rV12 ?_
  refine x_false rfl ?_
  refine x_skip ?_
  refine xs_plain (E := EE [9, 2000009]) ?_
  refine rV12 ?_
  refine lx_call rfl rfl ent18 (enc2_p (cA2 none (D2_on D2_nil))) rfl rfl ?_
  refine la zv56 fun b8 => ?_
  refine rV12 ?_
  refine xs_plain (E := EE [9, 2000009]) ?_
  refine rV12 ?_
  refine lx_binB true rfl rfl (fun _ => rfl) (fun _ => bin_neq_i _ _ _) (rfl) rfl rfl ?_
  refine rV12 ?_
  refine lx_skip rfl rfl rfl ?_
  refine lx_skip rfl rfl rfl ?_
  refine lx_skip rfl rfl rfl ?_
  refine rV12 ?_
  refine rt ?_
  exact kret_tmp rfl rfl (fun w hw => ⟨rfl, hp_below hw⟩)
theorem dec2_lawA (e : Option Addr) (cap : Nat) (bs : List (BitVec 8)) (w : World) (hw : Gt w) (hby : BytesAt w e bs) : Calls Tryz.prog 4 [.slice e bs.length cap].toArray w (fun r w' => r = .returned (.bool true) ∧ Grow w w') := by
  cases bs with
  | nil => exact dec2_law0 e cap w hw
  | cons a r => exact dec2_law e cap (a :: r) (Nat.succ_pos _) w hw hby
end Go.Proofs.YtamddkjccmhgaaaGreatDoor
