/-
  The reference's Decode.
  The reference's Encode.
  The document's decoding as a relation of bytes, an answer's number and a point; the reference's Decode answers so.
  Points as bytes: what is written is read, and what is read is written so. Nothing here names a program.
  Points as bytes, both groups: what is written is read, and what is read is written so. Nothing here names a program.
  Helps of the laws: bytes held against one another, copies; the reference's Encode of a point.
-/
import Derived.Test.YtamddkjccmhgaaaGreatDoorXE
import Derived.Test.YtamddkjccmhgaaaGreatDoorX2
import Derived.Test.YtamddkjccmhgaaaGreatDoorX3
import Derived.Test.YtamddkjccmhgaaaGreatDoorX5
namespace Go.Proofs.YtamddkjccmhgaaaGreatDoor
open Go.RowKit
set_option maxRecDepth 100000
set_option maxHeartbeats 1000000
attribute [local simp] fe_len nm_len AS_len SS_len MONT_len RM_len FRs_len BYs_len by48_len PLl TWOl ONEl N1l IVPl HFPl RTPl FL_len SP_len fe2_len SP2_len FM_len J1.GL_len J2.GL_len

theorem ent11 : Enters Tryz.prog 11 := fun _ _ => by kernel_rfl
theorem ti5 : TI Tryz.prog 5 (.int .u8 0) 1 1 := ti_mk (by kernel_rfl)
theorem by48_back (bs : List (BitVec 8)) (h : bs.length = 48) (hl : BN bs 48 < PP) : by48 (zp (BN bs 48)) = bs := by
  have e := V_FRs bs (by omega)
  rw [h] at e
  have e2 : nm (zp (BN bs 48)) = FRs bs 48 := (nm_of (FRs_len bs 48) (by rw [e]; exact hl) (by rw [e])).symm
  have e3 := bytes_from bs (by omega) 48 rfl
  rw [h, Nat.sub_self, List.drop_zero] at e3
  rw [by48, e2, e3]
def FG (bs : List (BitVec 8)) : BitVec 8 := bs.getD 0 0 &&& 224#8
def MK (bs : List (BitVec 8)) : List (BitVec 8) := bs.set 0 (bs.getD 0 0 &&& 31#8)
theorem MK_len (bs : List (BitVec 8)) : (MK bs).length = bs.length := by simp [MK]
attribute [local simp] MK_len
theorem tk_at {c : List Value} {xs : List (BitVec 8)} (h : c.take xs.length = xs.map U8) (k : Nat) (hk : k < xs.length) : c[k]? = some (U8 (xs.getD k 0)) := by
  have e := gm U8 xs 0 k hk
  rw [← h, List.getElem?_take] at e
  rw [if_pos hk] at e
  exact e
theorem tk_set {c : List Value} {bs : List (BitVec 8)} (h : c.take bs.length = bs.map U8) : (c.set 0 (U8 (bs.getD 0 0 &&& 31#8))).take (MK bs).length = (MK bs).map U8 := by
  rw [MK_len, MK, List.map_set, ← h]
  exact List.take_set ..
theorem bytes_pre {w : World} {b : Nat} {c : List Value} {xs : List (BitVec 8)} (h : w.rangeAt b 0 c) (ht : c.take xs.length = xs.map U8) : BytesAt w (some ⟨b, 0, none⟩) xs := J2.bytes_pre h ht
theorem rfrom_cut (e : Option Addr) (cap c' : Nat) (c : List (BitVec 8)) (l len : Nat) (hn : len = 48) (hl : ((c.drop l).take 48).length = 48) (hc : c.length ≤ cap) (w : World) (hw : Gt w) (hby : BytesAt w e c) :
    Calls Tryz.prog 39 [.slice (if cap = l then e else e.map (·.add (l * 1))) len c'].toArray w (fun r w' => r = .returned (.tuple #[NV (FRs ((c.drop l).take 48) 48), .bool true]) ∧ Grow w w') := by
  subst hn
  have h := rfrom_calls (if cap = l then e else e.map (·.add (l * 1))) c' ((c.drop l).take 48) w hw (hby.cut l 48 hc)
  rw [hl, if_neg (show ¬ 48 < 48 by decide)] at h
  exact h
theorem FRs_back {bs : List (BitVec 8)} (h : bs.length = 48) (hl : BN bs 48 < PP) : FRs bs 48 = nm (zp (BN bs 48)) := by
  have e := FRs_by48 (zp (BN bs 48))
  rw [by48_back bs h hl] at e
  exact e
theorem less_y {bs : List (BitVec 8)} (h : bs.length = 48) (hl : BN bs 48 < PP) : decide ((SS (FRs bs 48) PL 6).2 = 1) = true := by
  have e := V_FRs bs (by omega)
  rw [h] at e
  rcases SS_lt (FRs bs 48) PL with ⟨_, k⟩ | ⟨k, _⟩
  · rw [e, PL_val] at k; omega
  · exact decide_eq_true k
theorem less_n {bs : List (BitVec 8)} (h : bs.length = 48) (hl : ¬ BN bs 48 < PP) : decide ((SS (FRs bs 48) PL 6).2 = 1) = false := by
  have e := V_FRs bs (by omega)
  rw [h] at e
  rcases SS_lt (FRs bs 48) PL with ⟨k, _⟩ | ⟨_, _, k⟩
  · exact decide_eq_false (by rw [k]; decide)
  · rw [e, PL_val] at k; exact absurd k hl
theorem r9dec2_len (e : Option Addr) (cap : Nat) (bs : List (BitVec 8)) (h48 : ¬ bs.length = 96) (w : World) (hw : Gt w) :
    Calls Tryz.prog 11 [.slice e bs.length cap, .bool true].toArray w (fun r w' => r = .returned (.tuple #[EV6 (ze2, ze2, ze2), I 100]) ∧ Grow w w') := by
  have hGF : BOk Gt (pl w) := gt_low.plain hw
  refine calls_of_X (G := Gt) Tryz.func11 rfl rfl (Hp (pl w) []) (hp_refl (pl w) trivial rides_true) (good_hp hGF) ?_
  refine xs_plain (E := EE []) ?_
  refine lx_allocr 4 hGF zv40 rfl rfl ?_
  intro b4
  refine lx_assign rfl rfl rfl ?_
  refine lx_nil ?_
  refine xs_plain (E := EE []) ?_
  refine lx_assign rfl rfl rfl ?_
  refine lx_nil ?_
  refine x_seq ?_
  refine xs_plain (E := EE []) ?_
  refine lx_move rfl rfl rfl ?_
  refine lx_nil ?_
  refine x_true rfl ?_
  refine x_plain (E := EE []) ?_
  refine lx_assign rfl rfl rfl ?_
  refine lx_nil ?_
  refine x_seq ?_
  refine xs_plain (E := EE []) ?_
  refine lx_move rfl rfl rfl ?_
  refine lx_len rfl (fun _ => len_slice Tryz.underlying22 _ _ _ _) rfl rfl ?_
  refine lx_move rfl rfl rfl ?_
  refine lx_binB true rfl rfl (fun _ => rfl) (fun _ => bin_neq_i _ _ _) (bne_iff_ne.2 (by omega)) rfl rfl ?_
  refine lx_nil ?_
  refine x_true rfl ?_
  refine xs_plain (E := EE []) ?_
  refine lx_threeN three40 rfl rfl ?_
  refine lx_storea 4 hGF rfl rfl rfl Tryz.sizeOf40 (by simp) (by simp) (one_u64 _) rfl ?_
  refine lx_assign rfl rfl rfl ?_
  refine lx_nil ?_
  refine x_ret ?_
  repeat (first | refine kseq_ret ?_ | refine kblk_ret ?_)
  exact kret_ct 4 rfl rfl rfl rfl Tryz.isAgg40 Tryz.sizeOf40 (by simp) (fun w hw => ⟨rfl, hp_below hw⟩)
theorem r9dec2_flag (e : Option Addr) (cap : Nat) (bs : List (BitVec 8)) (h48 : bs.length = 96) (hf : FG bs &&& 128#8 = 0#8) (w : World) (hw : Gt w) (hby : BytesAt w e bs) :
    Calls Tryz.prog 11 [.slice e bs.length cap, .bool true].toArray w (fun r w' => r = .returned (.tuple #[EV6 (ze2, ze2, ze2), I 101]) ∧ Grow w w') := by
  have hGF : BOk Gt (pl w) := gt_low.plain hw
  refine calls_of_X (G := Gt) Tryz.func11 rfl rfl (Hp (pl w) []) (hp_refl (pl w) trivial rides_true) (good_hp hGF) ?_
  refine xs_plain (E := EE []) ?_
  refine lx_allocr 4 hGF zv40 rfl rfl ?_
  intro b4
  refine lx_assign rfl rfl rfl ?_
  refine lx_nil ?_
  refine xs_plain (E := EE []) ?_
  refine lx_assign rfl rfl rfl ?_
  refine lx_nil ?_
  refine x_seq ?_
  refine xs_plain (E := EE []) ?_
  refine lx_move rfl rfl rfl ?_
  refine lx_nil ?_
  refine x_true rfl ?_
  refine x_plain (E := EE []) ?_
  refine lx_assign rfl rfl rfl ?_
  refine lx_nil ?_
  refine x_seq ?_
  refine xs_plain (E := EE []) ?_
  refine lx_move rfl rfl rfl ?_
  refine lx_len rfl (fun _ => len_slice Tryz.underlying22 _ _ _ _) rfl rfl ?_
  refine lx_move rfl rfl rfl ?_
  refine lx_binB false rfl rfl (fun _ => rfl) (fun _ => bin_neq_i _ _ _) (bne_eq_false_iff_eq.2 (by omega)) rfl rfl ?_
  refine lx_nil ?_
  refine x_false rfl ?_
  refine x_skip ?_
  refine xs_plain (E := EE []) ?_
  refine lx_move rfl rfl rfl ?_
  obtain ⟨ad, rfl, _⟩ := hby 0 _ (gm U8 bs 0 0 (by omega))
  refine lx_isA 0 rfl rfl Tryz.underlying22 Tryz.sizeOf5 rfl (by omega) rfl rfl ?_
  refine lx_load rfl Tryz.isAgg5 (fun w' h => by obtain ⟨ad', e, hc⟩ := (hby.grow (hp_below h)) 0 _ (gm U8 bs 0 0 (by omega)); cases e; exact hc) rfl rfl ?_
  refine lx_bin (v := U8 (FG bs)) rfl rfl (fun _ => rfl) (fun _ => bin_and_u8 _ _ 224#8) rfl rfl ?_
  refine lx_assign rfl rfl rfl ?_
  refine lx_nil ?_
  refine xs_plain (E := EE []) ?_
  refine lx_move rfl rfl rfl ?_
  refine lx_append (xs := []) (ys := bs) 7 hGF rfl rfl Tryz.underlying22 Tryz.underlying22 ti5 (.inl ⟨rfl, rfl, rfl⟩) (fun w' h => hby.grow (hp_below h)) (by simp; omega) rfl rfl (fun h0 => absurd (congrArg List.length h0) (by show ¬ bs.length = 0; omega)) (fun b7 c7 k7 q1 q2 q3 => ?_)
  have q0 : bs.length ≤ c7.length := by rw [q1]; exact q2
  refine lx_assign rfl rfl rfl ?_
  refine lx_nil ?_
  refine xs_plain (E := EE []) ?_
  refine lx_move rfl rfl rfl ?_
  refine lx_move rfl rfl rfl ?_
  refine lx_isA 0 rfl rfl Tryz.underlying22 Tryz.sizeOf5 rfl (by show 0 < bs.length; omega) rfl rfl ?_
  refine lx_load (v := U8 (bs.getD 0 0)) rfl Tryz.isAgg5 (fun w' h => hp_cell (n := 7) rfl (tk_at (xs := bs) q3 0 (by omega)) w' h) rfl rfl ?_
  refine lx_bin (v := U8 (bs.getD 0 0 &&& 31#8)) rfl rfl (fun _ => rfl) (fun _ => bin_and_u8 _ _ 31#8) rfl rfl ?_
  refine lx_isA 0 rfl rfl Tryz.underlying22 Tryz.sizeOf5 rfl (by show 0 < bs.length; omega) rfl rfl ?_
  refine lx_store 7 hGF rfl rfl rfl Tryz.sizeOf5 rfl (by show 0 < c7.length; omega) rfl ?_
  refine lx_nil ?_
  refine x_seq ?_
  refine xs_plain (E := EE []) ?_
  refine lx_move rfl rfl rfl ?_
  refine lx_bin (v := U8 (FG bs &&& 128#8)) rfl rfl (fun _ => rfl) (fun _ => bin_and_u8 _ _ 128#8) rfl rfl ?_
  refine lx_binB true rfl rfl (fun _ => rfl) (fun _ => bin_eql_u8 _ _ 0#8) (beq_iff_eq.2 hf) rfl rfl ?_
  refine lx_nil ?_
  refine x_true rfl ?_
  refine xs_plain (E := EE []) ?_
  refine lx_threeN three40 rfl rfl ?_
  refine lx_storea 4 hGF rfl rfl rfl Tryz.sizeOf40 (by simp) (by simp) (one_u64 _) rfl ?_
  refine lx_assign rfl rfl rfl ?_
  refine lx_nil ?_
  refine x_ret ?_
  repeat (first | refine kseq_ret ?_ | refine kblk_ret ?_)
  exact kret_ct 4 rfl rfl rfl rfl Tryz.isAgg40 Tryz.sizeOf40 (by simp) (fun w hw => ⟨rfl, hp_below hw⟩)
def INF (bs : List (BitVec 8)) (n : Nat) : Int := if (∀ j, j < n → (MK bs).getD j 0 = 0#8) ∧ FG bs &&& 32#8 = 0#8 then 0 else 101
theorem r9dec2_inf (e : Option Addr) (cap : Nat) (bs : List (BitVec 8)) (h48 : bs.length = 96) (hf : ¬ FG bs &&& 128#8 = 0#8) (h6 : ¬ FG bs &&& 64#8 = 0#8) (w : World) (hw : Gt w) (hby : BytesAt w e bs) :
    Calls Tryz.prog 11 [.slice e bs.length cap, .bool true].toArray w (fun r w' => r = .returned (.tuple #[EV6 (ze2, ze2, ze2), I (INF bs 96)]) ∧ Grow w w') := by
  have hGF : BOk Gt (pl w) := gt_low.plain hw
  refine calls_of_X (G := Gt) Tryz.func11 rfl rfl (Hp (pl w) []) (hp_refl (pl w) trivial rides_true) (good_hp hGF) ?_
  refine xs_plain (E := EE []) ?_
  refine lx_allocr 4 hGF zv40 rfl rfl ?_
  intro b4
  refine lx_assign rfl rfl rfl ?_
  refine lx_nil ?_
  refine xs_plain (E := EE []) ?_
  refine lx_assign rfl rfl rfl ?_
  refine lx_nil ?_
  refine x_seq ?_
  refine xs_plain (E := EE []) ?_
  refine lx_move rfl rfl rfl ?_
  refine lx_nil ?_
  refine x_true rfl ?_
  refine x_plain (E := EE []) ?_
  refine lx_assign rfl rfl rfl ?_
  refine lx_nil ?_
  refine x_seq ?_
  refine xs_plain (E := EE []) ?_
  refine lx_move rfl rfl rfl ?_
  refine lx_len rfl (fun _ => len_slice Tryz.underlying22 _ _ _ _) rfl rfl ?_
  refine lx_move rfl rfl rfl ?_
  refine lx_binB false rfl rfl (fun _ => rfl) (fun _ => bin_neq_i _ _ _) (bne_eq_false_iff_eq.2 (by omega)) rfl rfl ?_
  refine lx_nil ?_
  refine x_false rfl ?_
  refine x_skip ?_
  refine xs_plain (E := EE []) ?_
  refine lx_move rfl rfl rfl ?_
  obtain ⟨ad, rfl, _⟩ := hby 0 _ (gm U8 bs 0 0 (by omega))
  refine lx_isA 0 rfl rfl Tryz.underlying22 Tryz.sizeOf5 rfl (by omega) rfl rfl ?_
  refine lx_load rfl Tryz.isAgg5 (fun w' h => by obtain ⟨ad', e, hc⟩ := (hby.grow (hp_below h)) 0 _ (gm U8 bs 0 0 (by omega)); cases e; exact hc) rfl rfl ?_
  refine lx_bin (v := U8 (FG bs)) rfl rfl (fun _ => rfl) (fun _ => bin_and_u8 _ _ 224#8) rfl rfl ?_
  refine lx_assign rfl rfl rfl ?_
  refine lx_nil ?_
  refine xs_plain (E := EE []) ?_
  refine lx_move rfl rfl rfl ?_
  refine lx_append (xs := []) (ys := bs) 7 hGF rfl rfl Tryz.underlying22 Tryz.underlying22 ti5 (.inl ⟨rfl, rfl, rfl⟩) (fun w' h => hby.grow (hp_below h)) (by simp; omega) rfl rfl (fun h0 => absurd (congrArg List.length h0) (by show ¬ bs.length = 0; omega)) (fun b7 c7 k7 q1 q2 q3 => ?_)
  have q0 : bs.length ≤ c7.length := by rw [q1]; exact q2
  refine lx_assign rfl rfl rfl ?_
  refine lx_nil ?_
  refine xs_plain (E := EE []) ?_
  refine lx_move rfl rfl rfl ?_
  refine lx_move rfl rfl rfl ?_
  refine lx_isA 0 rfl rfl Tryz.underlying22 Tryz.sizeOf5 rfl (by show 0 < bs.length; omega) rfl rfl ?_
  refine lx_load (v := U8 (bs.getD 0 0)) rfl Tryz.isAgg5 (fun w' h => hp_cell (n := 7) rfl (tk_at (xs := bs) q3 0 (by omega)) w' h) rfl rfl ?_
  refine lx_bin (v := U8 (bs.getD 0 0 &&& 31#8)) rfl rfl (fun _ => rfl) (fun _ => bin_and_u8 _ _ 31#8) rfl rfl ?_
  refine lx_isA 0 rfl rfl Tryz.underlying22 Tryz.sizeOf5 rfl (by show 0 < bs.length; omega) rfl rfl ?_
  refine lx_store 7 hGF rfl rfl rfl Tryz.sizeOf5 rfl (by show 0 < c7.length; omega) rfl ?_
  refine lx_nil ?_
  refine x_seq ?_
  refine xs_plain (E := EE []) ?_
  refine lx_move rfl rfl rfl ?_
  refine lx_bin (v := U8 (FG bs &&& 128#8)) rfl rfl (fun _ => rfl) (fun _ => bin_and_u8 _ _ 128#8) rfl rfl ?_
  refine lx_binB false rfl rfl (fun _ => rfl) (fun _ => bin_eql_u8 _ _ 0#8) (beq_eq_false_iff_ne.2 hf) rfl rfl ?_
  refine lx_nil ?_
  refine x_false rfl ?_
  refine x_skip ?_
  refine x_seq ?_
  refine xs_plain (E := EE []) ?_
  refine lx_move rfl rfl rfl ?_
  refine lx_bin (v := U8 (FG bs &&& 64#8)) rfl rfl (fun _ => rfl) (fun _ => bin_and_u8 _ _ 64#8) rfl rfl ?_
  refine lx_binB true rfl rfl (fun _ => rfl) (fun _ => bin_neq_u8 _ _ 0#8) (bne_iff_ne.2 h6) rfl rfl ?_
  refine lx_nil ?_
  refine x_true rfl ?_
  refine x_seq ?_
  refine xs_plain (E := EE []) ?_
  refine lx_assign rfl rfl rfl ?_
  refine lx_nil ?_
  refine x_block ?_
  refine x_for (ι := { i : Nat // i ≤ 96 ∧ ∀ j, j < i → (MK bs).getD j 0 = 0#8 ∧ FG bs &&& 32#8 = 0#8 }) (fun y => [(4, .pointer (some ⟨b4, 0, none⟩)), (6, I 96), (7, U8 (FG bs)), (8, .slice (some ⟨b7, 0, none⟩) ([] ++ bs).length k7), (9, I (y.1 : Int))]) (fun y => [(4, b4, ((fe 0 ++ fe 0) ++ ((fe 0 ++ fe 0) ++ (fe 0 ++ fe 0))).map U64, 40), (7, b7, c7.set 0 (U8 (bs.getD 0 0 &&& 31#8)), 5)]) (fun y => 96 - y.1) ⟨0, Nat.zero_le _, fun _ h => absurd h (Nat.not_lt_zero _)⟩ hGF ⟨rfl, rfl, rfl, rfl, rfl, trivial⟩ ⟨rfl, rfl, trivial⟩ ?_
  rintro ⟨i, hi, hall⟩
  dsimp only
  by_cases hz : (MK bs).getD i 0 = 0#8
  · skip
    by_cases h2 : FG bs &&& 32#8 = 0#8
    · skip
      refine x_seq ?_
      refine xs_plain (E := EE []) ?_
      refine lx_move rfl rfl rfl ?_
      refine lx_move rfl rfl rfl ?_
      refine lx_bin rfl rfl (fun _ => rfl) (fun _ => bin_lss_i _ _ _) rfl rfl ?_
      refine lx_nil ?_
      refine x_if rfl (fun hc => ?_) (fun hc => ?_)
      · have hi2 : i < 96 := by simp at hc; omega
        refine x_skip ?_
        refine x_seq ?_
        refine x_block ?_
        refine xs_plain (E := EE []) ?_
        refine lx_move rfl rfl rfl ?_
        refine lx_move rfl rfl rfl ?_
        refine lx_isA i rfl rfl Tryz.underlying22 Tryz.sizeOf5 rfl (by show i < bs.length; omega) rfl rfl ?_
        refine lx_load (v := U8 ((MK bs).getD i 0)) rfl Tryz.isAgg5 (fun w' h => by rw [Addr.add_mid, Nat.zero_add]; exact hp_cell (n := 7) rfl (tk_at (xs := MK bs) (tk_set q3) i (by rw [MK_len]; omega)) w' h) rfl rfl ?_
        refine lx_binB false rfl rfl (fun _ => rfl) (fun _ => bin_neq_u8 _ _ 0#8) (bne_eq_false_iff_eq.2 hz) rfl rfl ?_
        refine lx_move rfl rfl rfl ?_
        refine lx_move rfl rfl rfl ?_
        refine lx_bin (v := U8 (FG bs &&& 32#8)) rfl rfl (fun _ => rfl) (fun _ => bin_and_u8 _ _ 32#8) rfl rfl ?_
        refine lx_binB false rfl rfl (fun _ => rfl) (fun _ => bin_neq_u8 _ _ 0#8) (bne_eq_false_iff_eq.2 h2) rfl rfl ?_
        refine lx_pick rfl rfl rfl rfl rfl ?_
        refine lx_nil ?_
        refine x_false rfl ?_
        refine x_skip ?_
        refine x_plain (E := EE []) ?_
        refine lx_move rfl rfl rfl ?_
        refine lx_bin rfl rfl (fun _ => rfl) (fun _ => bin_add_i _ _ _ (by unfold inI; omega)) rfl rfl ?_
        refine lx_assign rfl rfl rfl ?_
        refine lx_nil ?_
        repeat (refine kblk_n ?_)
        refine kseq_n ?_
        have hall' : ∀ j, j < i + 1 → (MK bs).getD j 0 = 0#8 ∧ FG bs &&& 32#8 = 0#8 := fun j hj => by
          rcases Nat.lt_or_ge j i with h | h
          · exact hall j h
          · obtain rfl : j = i := by omega
            exact ⟨hz, h2⟩
        exact ⟨rfl, ⟨i + 1, by omega, hall'⟩, _, by show 96 - (i + 1) < 96 - i; omega, rfl, ⟨rfl, rfl, rfl, rfl, rfl, trivial⟩, ⟨rfl, rfl, trivial⟩⟩
      · obtain rfl : i = 96 := by simp at hc; omega
        refine x_exit ?_
        refine xs_plain (E := EE []) ?_
        refine lx_threeN three40 rfl rfl ?_
        refine lx_storea 4 hGF rfl rfl rfl Tryz.sizeOf40 (by simp) (by simp) (one_u64 _) rfl ?_
        refine lx_assign rfl rfl rfl ?_
        refine lx_nil ?_
        refine x_ret ?_
        repeat (first | refine kseq_ret ?_ | refine kblk_ret ?_)
        exact kret_ct 4 rfl rfl rfl rfl Tryz.isAgg40 Tryz.sizeOf40 (by simp) (fun w hw => ⟨by rw [show INF bs 96 = 0 from if_pos ⟨fun j hj => (hall j hj).1, (hall 0 (by decide)).2⟩]; rfl, hp_below hw⟩)
    · skip
      refine x_seq ?_
      refine xs_plain (E := EE []) ?_
      refine lx_move rfl rfl rfl ?_
      refine lx_move rfl rfl rfl ?_
      refine lx_bin rfl rfl (fun _ => rfl) (fun _ => bin_lss_i _ _ _) rfl rfl ?_
      refine lx_nil ?_
      refine x_if rfl (fun hc => ?_) (fun hc => ?_)
      · have hi2 : i < 96 := by simp at hc; omega
        refine x_skip ?_
        refine x_seq ?_
        refine x_block ?_
        refine xs_plain (E := EE []) ?_
        refine lx_move rfl rfl rfl ?_
        refine lx_move rfl rfl rfl ?_
        refine lx_isA i rfl rfl Tryz.underlying22 Tryz.sizeOf5 rfl (by show i < bs.length; omega) rfl rfl ?_
        refine lx_load (v := U8 ((MK bs).getD i 0)) rfl Tryz.isAgg5 (fun w' h => by rw [Addr.add_mid, Nat.zero_add]; exact hp_cell (n := 7) rfl (tk_at (xs := MK bs) (tk_set q3) i (by rw [MK_len]; omega)) w' h) rfl rfl ?_
        refine lx_binB false rfl rfl (fun _ => rfl) (fun _ => bin_neq_u8 _ _ 0#8) (bne_eq_false_iff_eq.2 hz) rfl rfl ?_
        refine lx_move rfl rfl rfl ?_
        refine lx_move rfl rfl rfl ?_
        refine lx_bin (v := U8 (FG bs &&& 32#8)) rfl rfl (fun _ => rfl) (fun _ => bin_and_u8 _ _ 32#8) rfl rfl ?_
        refine lx_binB true rfl rfl (fun _ => rfl) (fun _ => bin_neq_u8 _ _ 0#8) (bne_iff_ne.2 h2) rfl rfl ?_
        refine lx_pick rfl rfl rfl rfl rfl ?_
        refine lx_nil ?_
        refine x_true rfl ?_
        refine xs_plain (E := EE []) ?_
        refine lx_threeN three40 rfl rfl ?_
        refine lx_storea 4 hGF rfl rfl rfl Tryz.sizeOf40 (by simp) (by simp) (one_u64 _) rfl ?_
        refine lx_assign rfl rfl rfl ?_
        refine lx_nil ?_
        refine x_ret ?_
        repeat (first | refine kseq_ret ?_ | refine kblk_ret ?_)
        exact kret_ct 4 rfl rfl rfl rfl Tryz.isAgg40 Tryz.sizeOf40 (by simp) (fun w hw => ⟨by rw [show INF bs 96 = 101 from if_neg (fun h => h2 h.2)]; rfl, hp_below hw⟩)
      · obtain rfl : i = 96 := by simp at hc; omega
        refine x_exit ?_
        refine xs_plain (E := EE []) ?_
        refine lx_threeN three40 rfl rfl ?_
        refine lx_storea 4 hGF rfl rfl rfl Tryz.sizeOf40 (by simp) (by simp) (one_u64 _) rfl ?_
        refine lx_assign rfl rfl rfl ?_
        refine lx_nil ?_
        refine x_ret ?_
        repeat (first | refine kseq_ret ?_ | refine kblk_ret ?_)
        exact kret_ct 4 rfl rfl rfl rfl Tryz.isAgg40 Tryz.sizeOf40 (by simp) (fun w hw => ⟨by rw [show INF bs 96 = 0 from if_pos ⟨fun j hj => (hall j hj).1, (hall 0 (by decide)).2⟩]; rfl, hp_below hw⟩)
  · skip
    refine x_seq ?_
    refine xs_plain (E := EE []) ?_
    refine lx_move rfl rfl rfl ?_
    refine lx_move rfl rfl rfl ?_
    refine lx_bin rfl rfl (fun _ => rfl) (fun _ => bin_lss_i _ _ _) rfl rfl ?_
    refine lx_nil ?_
    refine x_if rfl (fun hc => ?_) (fun hc => ?_)
    · have hi2 : i < 96 := by simp at hc; omega
      refine x_skip ?_
      refine x_seq ?_
      refine x_block ?_
      refine xs_plain (E := EE []) ?_
      refine lx_move rfl rfl rfl ?_
      refine lx_move rfl rfl rfl ?_
      refine lx_isA i rfl rfl Tryz.underlying22 Tryz.sizeOf5 rfl (by show i < bs.length; omega) rfl rfl ?_
      refine lx_load (v := U8 ((MK bs).getD i 0)) rfl Tryz.isAgg5 (fun w' h => by rw [Addr.add_mid, Nat.zero_add]; exact hp_cell (n := 7) rfl (tk_at (xs := MK bs) (tk_set q3) i (by rw [MK_len]; omega)) w' h) rfl rfl ?_
      refine lx_binB true rfl rfl (fun _ => rfl) (fun _ => bin_neq_u8 _ _ 0#8) (bne_iff_ne.2 hz) rfl rfl ?_
      refine lx_move rfl rfl rfl ?_
      refine lx_skip rfl rfl rfl ?_
      refine lx_skip rfl rfl rfl ?_
      refine lx_skip rfl rfl rfl ?_
      refine lx_pick rfl rfl rfl rfl rfl ?_
      refine lx_nil ?_
      refine x_true rfl ?_
      refine xs_plain (E := EE []) ?_
      refine lx_threeN three40 rfl rfl ?_
      refine lx_storea 4 hGF rfl rfl rfl Tryz.sizeOf40 (by simp) (by simp) (one_u64 _) rfl ?_
      refine lx_assign rfl rfl rfl ?_
      refine lx_nil ?_
      refine x_ret ?_
      repeat (first | refine kseq_ret ?_ | refine kblk_ret ?_)
      exact kret_ct 4 rfl rfl rfl rfl Tryz.isAgg40 Tryz.sizeOf40 (by simp) (fun w hw => ⟨by rw [show INF bs 96 = 101 from if_neg (fun h => hz (h.1 i hi2))]; rfl, hp_below hw⟩)
    · obtain rfl : i = 96 := by simp at hc; omega
      refine x_exit ?_
      refine xs_plain (E := EE []) ?_
      refine lx_threeN three40 rfl rfl ?_
      refine lx_storea 4 hGF rfl rfl rfl Tryz.sizeOf40 (by simp) (by simp) (one_u64 _) rfl ?_
      refine lx_assign rfl rfl rfl ?_
      refine lx_nil ?_
      refine x_ret ?_
      repeat (first | refine kseq_ret ?_ | refine kblk_ret ?_)
      exact kret_ct 4 rfl rfl rfl rfl Tryz.isAgg40 Tryz.sizeOf40 (by simp) (fun w hw => ⟨by rw [show INF bs 96 = 0 from if_pos ⟨fun j hj => (hall j hj).1, (hall 0 (by decide)).2⟩]; rfl, hp_below hw⟩)
def LO (bs : List (BitVec 8)) (l : Nat) : List (BitVec 8) := ((MK bs).drop l).take 48
theorem LO_len {bs : List (BitVec 8)} {l : Nat} (h : l + 48 ≤ bs.length) : (LO bs l).length = 48 := by
  rw [LO, List.length_take, List.length_drop, MK_len]; omega
theorem rfrom_lo (b k7 c' len l : Nat) (bs : List (BitVec 8)) (c7 : List Value) (q3 : c7.take bs.length = bs.map U8) (hn : len = 48) (hl : l + 48 ≤ bs.length) (hc : bs.length ≤ k7) (w : World) (hw : Gt w) (h : w.rangeAt b 0 (c7.set 0 (U8 (bs.getD 0 0 &&& 31#8)))) :
    Calls Tryz.prog 39 [.slice (if k7 = l then some ⟨b, 0, none⟩ else (some ⟨b, 0, none⟩ : Option Addr).map (·.add (l * 1))) len c'].toArray w (fun r w' => r = .returned (.tuple #[NV (FRs (LO bs l) 48), .bool true]) ∧ Grow w w') :=
  rfrom_cut (some ⟨b, 0, none⟩) k7 c' (MK bs) l len hn (LO_len hl) (by rw [MK_len]; exact hc) w hw (bytes_pre h (tk_set q3))
theorem num_2 {c d : List (BitVec 8)} (h : c.length = 48) (hl : BN c 48 < PP) (h' : d.length = 48) (hl' : BN d 48 < PP) {x : W2} (hx : (zp (BN c 48), zp (BN d 48)) = x) : Pure Tryz.prog Gt 43 [NV (FRs c 48), NV (FRs d 48)] (EV2 x) := by
  have k := r9num (zp (BN c 48)) (zp (BN d 48))
  rw [← FRs_back h hl, ← FRs_back h' hl', hx] at k
  exact k
theorem r9dec2_ra (e : Option Addr) (cap : Nat) (bs : List (BitVec 8)) (h48 : bs.length = 96) (hf : ¬ FG bs &&& 128#8 = 0#8) (h6 : FG bs &&& 64#8 = 0#8) (hp : ¬ BN (LO bs 48) 48 < PP) (w : World) (hw : Gt w) (hby : BytesAt w e bs) :
    Calls Tryz.prog 11 [.slice e bs.length cap, .bool true].toArray w (fun r w' => r = .returned (.tuple #[EV6 (ze2, ze2, ze2), I 102]) ∧ Grow w w') := by
  have hGF : BOk Gt (pl w) := gt_low.plain hw
  refine calls_of_X (G := Gt) Tryz.func11 rfl rfl (Hp (pl w) []) (hp_refl (pl w) trivial rides_true) (good_hp hGF) ?_
  refine xs_plain (E := EE []) ?_
  refine lx_allocr 4 hGF zv40 rfl rfl ?_
  intro b4
  refine lx_assign rfl rfl rfl ?_
  refine lx_nil ?_
  refine xs_plain (E := EE []) ?_
  refine lx_assign rfl rfl rfl ?_
  refine lx_nil ?_
  refine x_seq ?_
  refine xs_plain (E := EE []) ?_
  refine lx_move rfl rfl rfl ?_
  refine lx_nil ?_
  refine x_true rfl ?_
  refine x_plain (E := EE []) ?_
  refine lx_assign rfl rfl rfl ?_
  refine lx_nil ?_
  refine x_seq ?_
  refine xs_plain (E := EE []) ?_
  refine lx_move rfl rfl rfl ?_
  refine lx_len rfl (fun _ => len_slice Tryz.underlying22 _ _ _ _) rfl rfl ?_
  refine lx_move rfl rfl rfl ?_
  refine lx_binB false rfl rfl (fun _ => rfl) (fun _ => bin_neq_i _ _ _) (bne_eq_false_iff_eq.2 (by omega)) rfl rfl ?_
  refine lx_nil ?_
  refine x_false rfl ?_
  refine x_skip ?_
  refine xs_plain (E := EE []) ?_
  refine lx_move rfl rfl rfl ?_
  obtain ⟨ad, rfl, _⟩ := hby 0 _ (gm U8 bs 0 0 (by omega))
  refine lx_isA 0 rfl rfl Tryz.underlying22 Tryz.sizeOf5 rfl (by omega) rfl rfl ?_
  refine lx_load rfl Tryz.isAgg5 (fun w' h => by obtain ⟨ad', e, hc⟩ := (hby.grow (hp_below h)) 0 _ (gm U8 bs 0 0 (by omega)); cases e; exact hc) rfl rfl ?_
  refine lx_bin (v := U8 (FG bs)) rfl rfl (fun _ => rfl) (fun _ => bin_and_u8 _ _ 224#8) rfl rfl ?_
  refine lx_assign rfl rfl rfl ?_
  refine lx_nil ?_
  refine xs_plain (E := EE []) ?_
  refine lx_move rfl rfl rfl ?_
  refine lx_append (xs := []) (ys := bs) 7 hGF rfl rfl Tryz.underlying22 Tryz.underlying22 ti5 (.inl ⟨rfl, rfl, rfl⟩) (fun w' h => hby.grow (hp_below h)) (by simp; omega) rfl rfl (fun h0 => absurd (congrArg List.length h0) (by show ¬ bs.length = 0; omega)) (fun b7 c7 k7 q1 q2 q3 => ?_)
  have q0 : bs.length ≤ c7.length := by rw [q1]; exact q2
  refine lx_assign rfl rfl rfl ?_
  refine lx_nil ?_
  refine xs_plain (E := EE []) ?_
  refine lx_move rfl rfl rfl ?_
  refine lx_move rfl rfl rfl ?_
  refine lx_isA 0 rfl rfl Tryz.underlying22 Tryz.sizeOf5 rfl (by show 0 < bs.length; omega) rfl rfl ?_
  refine lx_load (v := U8 (bs.getD 0 0)) rfl Tryz.isAgg5 (fun w' h => hp_cell (n := 7) rfl (tk_at (xs := bs) q3 0 (by omega)) w' h) rfl rfl ?_
  refine lx_bin (v := U8 (bs.getD 0 0 &&& 31#8)) rfl rfl (fun _ => rfl) (fun _ => bin_and_u8 _ _ 31#8) rfl rfl ?_
  refine lx_isA 0 rfl rfl Tryz.underlying22 Tryz.sizeOf5 rfl (by show 0 < bs.length; omega) rfl rfl ?_
  refine lx_store 7 hGF rfl rfl rfl Tryz.sizeOf5 rfl (by show 0 < c7.length; omega) rfl ?_
  refine lx_nil ?_
  refine x_seq ?_
  refine xs_plain (E := EE []) ?_
  refine lx_move rfl rfl rfl ?_
  refine lx_bin (v := U8 (FG bs &&& 128#8)) rfl rfl (fun _ => rfl) (fun _ => bin_and_u8 _ _ 128#8) rfl rfl ?_
  refine lx_binB false rfl rfl (fun _ => rfl) (fun _ => bin_eql_u8 _ _ 0#8) (beq_eq_false_iff_ne.2 hf) rfl rfl ?_
  refine lx_nil ?_
  refine x_false rfl ?_
  refine x_skip ?_
  refine x_seq ?_
  refine xs_plain (E := EE []) ?_
  refine lx_move rfl rfl rfl ?_
  refine lx_bin (v := U8 (FG bs &&& 64#8)) rfl rfl (fun _ => rfl) (fun _ => bin_and_u8 _ _ 64#8) rfl rfl ?_
  refine lx_binB false rfl rfl (fun _ => rfl) (fun _ => bin_neq_u8 _ _ 0#8) ((bne_eq_false_iff_eq).2 h6) rfl rfl ?_
  refine lx_nil ?_
  refine x_false rfl ?_
  refine x_skip ?_
  refine xs_plain (E := EE []) ?_
  refine lx_move rfl rfl rfl ?_
  refine lx_move rfl rfl rfl ?_
  refine lx_bin (v := I 48) rfl rfl (fun _ => rfl) (fun _ => bin_sub_i _ _ _ (by unfold inI; omega)) rfl rfl ?_
  refine lx_slsl (l := 48) (h' := bs.length) rfl Tryz.underlying22 Tryz.sizeOf5 rfl rfl ⟨by omega, q2⟩ rfl rfl ?_
  refine lx_callC rfl rfl ent39 (fun w' hC hG => rfrom_lo b7 k7 _ _ 48 bs c7 q3 (by omega) (by omega) q2 w' hG (hp_row (n := 7) rfl w' hC)) rfl rfl ?_
  refine lx_move rfl rfl rfl ?_
  refine lx_ext rfl rfl rfl rfl ?_
  refine lx_ext rfl rfl rfl rfl ?_
  refine lx_allocr 10 hGF zv34 rfl rfl ?_
  intro b10
  refine lx_storea 10 hGF rfl rfl rfl Tryz.sizeOf34 (by simp) (by simp) (one_u64 _) rfl ?_
  refine lx_assign rfl rfl rfl ?_
  refine lx_nil ?_
  refine xs_plain (E := EE []) ?_
  refine lx_buildz zv34 Tryz.underlying34 Tryz.sizeOf25 rfl rfl ?_
  refine lx_allocr 12 hGF zv34 rfl rfl ?_
  intro b12
  refine lx_storea 12 hGF rfl rfl rfl Tryz.sizeOf34 (by rw [List.length_map, List.length_replicate]) (by simp) (one_u64 _) rfl ?_
  refine lx_nil ?_
  refine x_seq ?_
  refine xs_plain (E := EE []) ?_
  refine lx_move rfl rfl rfl ?_
  refine lx_nil ?_
  refine x_true rfl ?_
  refine x_plain (E := EE []) ?_
  refine lx_move rfl rfl rfl ?_
  refine lx_slsl (l := 0) (h' := 48) rfl Tryz.underlying22 Tryz.sizeOf5 rfl rfl ⟨by omega, Nat.le_trans (show 48 ≤ bs.length by omega) q2⟩ rfl rfl ?_
  refine lx_callC rfl rfl ent39 (fun w' hC hG => rfrom_lo b7 k7 _ _ 0 bs c7 q3 (by omega) (by omega) q2 w' hG (hp_row (n := 7) rfl w' hC)) rfl rfl ?_
  refine lx_move rfl rfl rfl ?_
  refine lx_ext rfl rfl rfl rfl ?_
  refine lx_ext rfl rfl rfl rfl ?_
  refine lx_storea 12 hGF rfl rfl rfl Tryz.sizeOf34 (by simp) (by simp) (one_u64 _) rfl ?_
  refine lx_nil ?_
  refine x_seq ?_
  refine xs_drawn (E := EE []) mixed (by kernel_rfl) (by kernel_rfl) (by kernel_rfl) ?_
  refine lx_loada 10 rfl rfl Tryz.isAgg34 Tryz.sizeOf34 (by simp) rfl rfl ?_
  refine lx_call rfl rfl ent41 (rp_pure) rfl rfl ?_
  refine lx_callB false rfl rfl ent40 (rless_pure _ _ (by simp) (by simp)) (less_n (LO_len (l := 48) (by omega)) hp) rfl rfl ?_
  refine lx_un rfl (fun _ => un_not _) rfl rfl ?_
  refine lx_move rfl rfl rfl ?_
  refine lx_skip rfl rfl rfl ?_
  refine lx_skip rfl rfl rfl ?_
  refine lx_skip rfl rfl rfl ?_
  refine lx_skip rfl rfl rfl ?_
  refine lx_pick rfl rfl rfl rfl rfl ?_
  refine lx_nil ?_
  refine x_true rfl ?_
  refine xs_plain (E := EE []) ?_
  refine lx_threeN three40 rfl rfl ?_
  refine lx_storea 4 hGF rfl rfl rfl Tryz.sizeOf40 (by simp) (by simp) (one_u64 _) rfl ?_
  refine lx_assign rfl rfl rfl ?_
  refine lx_nil ?_
  refine x_ret ?_
  repeat (first | refine kseq_ret ?_ | refine kblk_ret ?_)
  exact kret_ct 4 rfl rfl rfl rfl Tryz.isAgg40 Tryz.sizeOf40 (by simp) (fun w hw => ⟨rfl, hp_below hw⟩)
theorem r9dec2_rb (e : Option Addr) (cap : Nat) (bs : List (BitVec 8)) (h48 : bs.length = 96) (hf : ¬ FG bs &&& 128#8 = 0#8) (h6 : FG bs &&& 64#8 = 0#8) (hp : BN (LO bs 48) 48 < PP) (hp2 : ¬ BN (LO bs 0) 48 < PP) (w : World) (hw : Gt w) (hby : BytesAt w e bs) :
    Calls Tryz.prog 11 [.slice e bs.length cap, .bool true].toArray w (fun r w' => r = .returned (.tuple #[EV6 (ze2, ze2, ze2), I 102]) ∧ Grow w w') := by
  have hGF : BOk Gt (pl w) := gt_low.plain hw
  refine calls_of_X (G := Gt) Tryz.func11 rfl rfl (Hp (pl w) []) (hp_refl (pl w) trivial rides_true) (good_hp hGF) ?_
  refine xs_plain (E := EE []) ?_
  refine lx_allocr 4 hGF zv40 rfl rfl ?_
  intro b4
  refine lx_assign rfl rfl rfl ?_
  refine lx_nil ?_
  refine xs_plain (E := EE []) ?_
  refine lx_assign rfl rfl rfl ?_
  refine lx_nil ?_
  refine x_seq ?_
  refine xs_plain (E := EE []) ?_
  refine lx_move rfl rfl rfl ?_
  refine lx_nil ?_
  refine x_true rfl ?_
  refine x_plain (E := EE []) ?_
  refine lx_assign rfl rfl rfl ?_
  refine lx_nil ?_
  refine x_seq ?_
  refine xs_plain (E := EE []) ?_
  refine lx_move rfl rfl rfl ?_
  refine lx_len rfl (fun _ => len_slice Tryz.underlying22 _ _ _ _) rfl rfl ?_
  refine lx_move rfl rfl rfl ?_
  refine lx_binB false rfl rfl (fun _ => rfl) (fun _ => bin_neq_i _ _ _) (bne_eq_false_iff_eq.2 (by omega)) rfl rfl ?_
  refine lx_nil ?_
  refine x_false rfl ?_
  refine x_skip ?_
  refine xs_plain (E := EE []) ?_
  refine lx_move rfl rfl rfl ?_
  obtain ⟨ad, rfl, _⟩ := hby 0 _ (gm U8 bs 0 0 (by omega))
  refine lx_isA 0 rfl rfl Tryz.underlying22 Tryz.sizeOf5 rfl (by omega) rfl rfl ?_
  refine lx_load rfl Tryz.isAgg5 (fun w' h => by obtain ⟨ad', e, hc⟩ := (hby.grow (hp_below h)) 0 _ (gm U8 bs 0 0 (by omega)); cases e; exact hc) rfl rfl ?_
  refine lx_bin (v := U8 (FG bs)) rfl rfl (fun _ => rfl) (fun _ => bin_and_u8 _ _ 224#8) rfl rfl ?_
  refine lx_assign rfl rfl rfl ?_
  refine lx_nil ?_
  refine xs_plain (E := EE []) ?_
  refine lx_move rfl rfl rfl ?_
  refine lx_append (xs := []) (ys := bs) 7 hGF rfl rfl Tryz.underlying22 Tryz.underlying22 ti5 (.inl ⟨rfl, rfl, rfl⟩) (fun w' h => hby.grow (hp_below h)) (by simp; omega) rfl rfl (fun h0 => absurd (congrArg List.length h0) (by show ¬ bs.length = 0; omega)) (fun b7 c7 k7 q1 q2 q3 => ?_)
  have q0 : bs.length ≤ c7.length := by rw [q1]; exact q2
  refine lx_assign rfl rfl rfl ?_
  refine lx_nil ?_
  refine xs_plain (E := EE []) ?_
  refine lx_move rfl rfl rfl ?_
  refine lx_move rfl rfl rfl ?_
  refine lx_isA 0 rfl rfl Tryz.underlying22 Tryz.sizeOf5 rfl (by show 0 < bs.length; omega) rfl rfl ?_
  refine lx_load (v := U8 (bs.getD 0 0)) rfl Tryz.isAgg5 (fun w' h => hp_cell (n := 7) rfl (tk_at (xs := bs) q3 0 (by omega)) w' h) rfl rfl ?_
  refine lx_bin (v := U8 (bs.getD 0 0 &&& 31#8)) rfl rfl (fun _ => rfl) (fun _ => bin_and_u8 _ _ 31#8) rfl rfl ?_
  refine lx_isA 0 rfl rfl Tryz.underlying22 Tryz.sizeOf5 rfl (by show 0 < bs.length; omega) rfl rfl ?_
  refine lx_store 7 hGF rfl rfl rfl Tryz.sizeOf5 rfl (by show 0 < c7.length; omega) rfl ?_
  refine lx_nil ?_
  refine x_seq ?_
  refine xs_plain (E := EE []) ?_
  refine lx_move rfl rfl rfl ?_
  refine lx_bin (v := U8 (FG bs &&& 128#8)) rfl rfl (fun _ => rfl) (fun _ => bin_and_u8 _ _ 128#8) rfl rfl ?_
  refine lx_binB false rfl rfl (fun _ => rfl) (fun _ => bin_eql_u8 _ _ 0#8) (beq_eq_false_iff_ne.2 hf) rfl rfl ?_
  refine lx_nil ?_
  refine x_false rfl ?_
  refine x_skip ?_
  refine x_seq ?_
  refine xs_plain (E := EE []) ?_
  refine lx_move rfl rfl rfl ?_
  refine lx_bin (v := U8 (FG bs &&& 64#8)) rfl rfl (fun _ => rfl) (fun _ => bin_and_u8 _ _ 64#8) rfl rfl ?_
  refine lx_binB false rfl rfl (fun _ => rfl) (fun _ => bin_neq_u8 _ _ 0#8) ((bne_eq_false_iff_eq).2 h6) rfl rfl ?_
  refine lx_nil ?_
  refine x_false rfl ?_
  refine x_skip ?_
  refine xs_plain (E := EE []) ?_
  refine lx_move rfl rfl rfl ?_
  refine lx_move rfl rfl rfl ?_
  refine lx_bin (v := I 48) rfl rfl (fun _ => rfl) (fun _ => bin_sub_i _ _ _ (by unfold inI; omega)) rfl rfl ?_
  refine lx_slsl (l := 48) (h' := bs.length) rfl Tryz.underlying22 Tryz.sizeOf5 rfl rfl ⟨by omega, q2⟩ rfl rfl ?_
  refine lx_callC rfl rfl ent39 (fun w' hC hG => rfrom_lo b7 k7 _ _ 48 bs c7 q3 (by omega) (by omega) q2 w' hG (hp_row (n := 7) rfl w' hC)) rfl rfl ?_
  refine lx_move rfl rfl rfl ?_
  refine lx_ext rfl rfl rfl rfl ?_
  refine lx_ext rfl rfl rfl rfl ?_
  refine lx_allocr 10 hGF zv34 rfl rfl ?_
  intro b10
  refine lx_storea 10 hGF rfl rfl rfl Tryz.sizeOf34 (by simp) (by simp) (one_u64 _) rfl ?_
  refine lx_assign rfl rfl rfl ?_
  refine lx_nil ?_
  refine xs_plain (E := EE []) ?_
  refine lx_buildz zv34 Tryz.underlying34 Tryz.sizeOf25 rfl rfl ?_
  refine lx_allocr 12 hGF zv34 rfl rfl ?_
  intro b12
  refine lx_storea 12 hGF rfl rfl rfl Tryz.sizeOf34 (by rw [List.length_map, List.length_replicate]) (by simp) (one_u64 _) rfl ?_
  refine lx_nil ?_
  refine x_seq ?_
  refine xs_plain (E := EE []) ?_
  refine lx_move rfl rfl rfl ?_
  refine lx_nil ?_
  refine x_true rfl ?_
  refine x_plain (E := EE []) ?_
  refine lx_move rfl rfl rfl ?_
  refine lx_slsl (l := 0) (h' := 48) rfl Tryz.underlying22 Tryz.sizeOf5 rfl rfl ⟨by omega, Nat.le_trans (show 48 ≤ bs.length by omega) q2⟩ rfl rfl ?_
  refine lx_callC rfl rfl ent39 (fun w' hC hG => rfrom_lo b7 k7 _ _ 0 bs c7 q3 (by omega) (by omega) q2 w' hG (hp_row (n := 7) rfl w' hC)) rfl rfl ?_
  refine lx_move rfl rfl rfl ?_
  refine lx_ext rfl rfl rfl rfl ?_
  refine lx_ext rfl rfl rfl rfl ?_
  refine lx_storea 12 hGF rfl rfl rfl Tryz.sizeOf34 (by simp) (by simp) (one_u64 _) rfl ?_
  refine lx_nil ?_
  refine x_seq ?_
  refine xs_drawn (E := EE []) mixed (by kernel_rfl) (by kernel_rfl) (by kernel_rfl) ?_
  refine lx_loada 10 rfl rfl Tryz.isAgg34 Tryz.sizeOf34 (by simp) rfl rfl ?_
  refine lx_call rfl rfl ent41 (rp_pure) rfl rfl ?_
  refine lx_callB true rfl rfl ent40 (rless_pure _ _ (by simp) (by simp)) (less_y (LO_len (l := 48) (by omega)) hp) rfl rfl ?_
  refine lx_un rfl (fun _ => un_not _) rfl rfl ?_
  refine lx_move rfl rfl rfl ?_
  refine lx_loada 12 rfl rfl Tryz.isAgg34 Tryz.sizeOf34 (by simp) rfl rfl ?_
  refine lx_call rfl rfl ent41 (rp_pure) rfl rfl ?_
  refine lx_callB false rfl rfl ent40 (rless_pure _ _ (by simp) (by simp)) (less_n (LO_len (l := 0) (by omega)) hp2) rfl rfl ?_
  refine lx_un rfl (fun _ => un_not _) rfl rfl ?_
  refine lx_pick rfl rfl rfl rfl rfl ?_
  refine lx_nil ?_
  refine x_true rfl ?_
  refine xs_plain (E := EE []) ?_
  refine lx_threeN three40 rfl rfl ?_
  refine lx_storea 4 hGF rfl rfl rfl Tryz.sizeOf40 (by simp) (by simp) (one_u64 _) rfl ?_
  refine lx_assign rfl rfl rfl ?_
  refine lx_nil ?_
  refine x_ret ?_
  repeat (first | refine kseq_ret ?_ | refine kblk_ret ?_)
  exact kret_ct 4 rfl rfl rfl rfl Tryz.isAgg40 Tryz.sizeOf40 (by simp) (fun w hw => ⟨rfl, hp_below hw⟩)
theorem r9dec2_cu (e : Option Addr) (cap : Nat) (bs : List (BitVec 8)) (h48 : bs.length = 96) (hf : ¬ FG bs &&& 128#8 = 0#8) (h6 : FG bs &&& 64#8 = 0#8) (hp : BN (LO bs 48) 48 < PP) (hp2 : BN (LO bs 0) 48 < PP) (x : W2) (hx : (zp (BN (LO bs 48) 48), zp (BN (LO bs 0) 48)) = x) (l : Bool) (hl : (FG bs &&& 32#8 != 0#8) = l) (hL : Pure Tryz.prog Gt 42 [EV2 x, .bool l, .bool true] (.tuple #[EV6 (ze2, ze2, ze2), .bool false])) (w : World) (hw : Gt w) (hby : BytesAt w e bs) :
    Calls Tryz.prog 11 [.slice e bs.length cap, .bool true].toArray w (fun r w' => r = .returned (.tuple #[EV6 (ze2, ze2, ze2), I 103]) ∧ Grow w w') := by
  have hGF : BOk Gt (pl w) := gt_low.plain hw
  refine calls_of_X (G := Gt) Tryz.func11 rfl rfl (Hp (pl w) []) (hp_refl (pl w) trivial rides_true) (good_hp hGF) ?_
  refine xs_plain (E := EE []) ?_
  refine lx_allocr 4 hGF zv40 rfl rfl ?_
  intro b4
  refine lx_assign rfl rfl rfl ?_
  refine lx_nil ?_
  refine xs_plain (E := EE []) ?_
  refine lx_assign rfl rfl rfl ?_
  refine lx_nil ?_
  refine x_seq ?_
  refine xs_plain (E := EE []) ?_
  refine lx_move rfl rfl rfl ?_
  refine lx_nil ?_
  refine x_true rfl ?_
  refine x_plain (E := EE []) ?_
  refine lx_assign rfl rfl rfl ?_
  refine lx_nil ?_
  refine x_seq ?_
  refine xs_plain (E := EE []) ?_
  refine lx_move rfl rfl rfl ?_
  refine lx_len rfl (fun _ => len_slice Tryz.underlying22 _ _ _ _) rfl rfl ?_
  refine lx_move rfl rfl rfl ?_
  refine lx_binB false rfl rfl (fun _ => rfl) (fun _ => bin_neq_i _ _ _) (bne_eq_false_iff_eq.2 (by omega)) rfl rfl ?_
  refine lx_nil ?_
  refine x_false rfl ?_
  refine x_skip ?_
  refine xs_plain (E := EE []) ?_
  refine lx_move rfl rfl rfl ?_
  obtain ⟨ad, rfl, _⟩ := hby 0 _ (gm U8 bs 0 0 (by omega))
  refine lx_isA 0 rfl rfl Tryz.underlying22 Tryz.sizeOf5 rfl (by omega) rfl rfl ?_
  refine lx_load rfl Tryz.isAgg5 (fun w' h => by obtain ⟨ad', e, hc⟩ := (hby.grow (hp_below h)) 0 _ (gm U8 bs 0 0 (by omega)); cases e; exact hc) rfl rfl ?_
  refine lx_bin (v := U8 (FG bs)) rfl rfl (fun _ => rfl) (fun _ => bin_and_u8 _ _ 224#8) rfl rfl ?_
  refine lx_assign rfl rfl rfl ?_
  refine lx_nil ?_
  refine xs_plain (E := EE []) ?_
  refine lx_move rfl rfl rfl ?_
  refine lx_append (xs := []) (ys := bs) 7 hGF rfl rfl Tryz.underlying22 Tryz.underlying22 ti5 (.inl ⟨rfl, rfl, rfl⟩) (fun w' h => hby.grow (hp_below h)) (by simp; omega) rfl rfl (fun h0 => absurd (congrArg List.length h0) (by show ¬ bs.length = 0; omega)) (fun b7 c7 k7 q1 q2 q3 => ?_)
  have q0 : bs.length ≤ c7.length := by rw [q1]; exact q2
  refine lx_assign rfl rfl rfl ?_
  refine lx_nil ?_
  refine xs_plain (E := EE []) ?_
  refine lx_move rfl rfl rfl ?_
  refine lx_move rfl rfl rfl ?_
  refine lx_isA 0 rfl rfl Tryz.underlying22 Tryz.sizeOf5 rfl (by show 0 < bs.length; omega) rfl rfl ?_
  refine lx_load (v := U8 (bs.getD 0 0)) rfl Tryz.isAgg5 (fun w' h => hp_cell (n := 7) rfl (tk_at (xs := bs) q3 0 (by omega)) w' h) rfl rfl ?_
  refine lx_bin (v := U8 (bs.getD 0 0 &&& 31#8)) rfl rfl (fun _ => rfl) (fun _ => bin_and_u8 _ _ 31#8) rfl rfl ?_
  refine lx_isA 0 rfl rfl Tryz.underlying22 Tryz.sizeOf5 rfl (by show 0 < bs.length; omega) rfl rfl ?_
  refine lx_store 7 hGF rfl rfl rfl Tryz.sizeOf5 rfl (by show 0 < c7.length; omega) rfl ?_
  refine lx_nil ?_
  refine x_seq ?_
  refine xs_plain (E := EE []) ?_
  refine lx_move rfl rfl rfl ?_
  refine lx_bin (v := U8 (FG bs &&& 128#8)) rfl rfl (fun _ => rfl) (fun _ => bin_and_u8 _ _ 128#8) rfl rfl ?_
  refine lx_binB false rfl rfl (fun _ => rfl) (fun _ => bin_eql_u8 _ _ 0#8) (beq_eq_false_iff_ne.2 hf) rfl rfl ?_
  refine lx_nil ?_
  refine x_false rfl ?_
  refine x_skip ?_
  refine x_seq ?_
  refine xs_plain (E := EE []) ?_
  refine lx_move rfl rfl rfl ?_
  refine lx_bin (v := U8 (FG bs &&& 64#8)) rfl rfl (fun _ => rfl) (fun _ => bin_and_u8 _ _ 64#8) rfl rfl ?_
  refine lx_binB false rfl rfl (fun _ => rfl) (fun _ => bin_neq_u8 _ _ 0#8) ((bne_eq_false_iff_eq).2 h6) rfl rfl ?_
  refine lx_nil ?_
  refine x_false rfl ?_
  refine x_skip ?_
  refine xs_plain (E := EE []) ?_
  refine lx_move rfl rfl rfl ?_
  refine lx_move rfl rfl rfl ?_
  refine lx_bin (v := I 48) rfl rfl (fun _ => rfl) (fun _ => bin_sub_i _ _ _ (by unfold inI; omega)) rfl rfl ?_
  refine lx_slsl (l := 48) (h' := bs.length) rfl Tryz.underlying22 Tryz.sizeOf5 rfl rfl ⟨by omega, q2⟩ rfl rfl ?_
  refine lx_callC rfl rfl ent39 (fun w' hC hG => rfrom_lo b7 k7 _ _ 48 bs c7 q3 (by omega) (by omega) q2 w' hG (hp_row (n := 7) rfl w' hC)) rfl rfl ?_
  refine lx_move rfl rfl rfl ?_
  refine lx_ext rfl rfl rfl rfl ?_
  refine lx_ext rfl rfl rfl rfl ?_
  refine lx_allocr 10 hGF zv34 rfl rfl ?_
  intro b10
  refine lx_storea 10 hGF rfl rfl rfl Tryz.sizeOf34 (by simp) (by simp) (one_u64 _) rfl ?_
  refine lx_assign rfl rfl rfl ?_
  refine lx_nil ?_
  refine xs_plain (E := EE []) ?_
  refine lx_buildz zv34 Tryz.underlying34 Tryz.sizeOf25 rfl rfl ?_
  refine lx_allocr 12 hGF zv34 rfl rfl ?_
  intro b12
  refine lx_storea 12 hGF rfl rfl rfl Tryz.sizeOf34 (by rw [List.length_map, List.length_replicate]) (by simp) (one_u64 _) rfl ?_
  refine lx_nil ?_
  refine x_seq ?_
  refine xs_plain (E := EE []) ?_
  refine lx_move rfl rfl rfl ?_
  refine lx_nil ?_
  refine x_true rfl ?_
  refine x_plain (E := EE []) ?_
  refine lx_move rfl rfl rfl ?_
  refine lx_slsl (l := 0) (h' := 48) rfl Tryz.underlying22 Tryz.sizeOf5 rfl rfl ⟨by omega, Nat.le_trans (show 48 ≤ bs.length by omega) q2⟩ rfl rfl ?_
  refine lx_callC rfl rfl ent39 (fun w' hC hG => rfrom_lo b7 k7 _ _ 0 bs c7 q3 (by omega) (by omega) q2 w' hG (hp_row (n := 7) rfl w' hC)) rfl rfl ?_
  refine lx_move rfl rfl rfl ?_
  refine lx_ext rfl rfl rfl rfl ?_
  refine lx_ext rfl rfl rfl rfl ?_
  refine lx_storea 12 hGF rfl rfl rfl Tryz.sizeOf34 (by simp) (by simp) (one_u64 _) rfl ?_
  refine lx_nil ?_
  refine x_seq ?_
  refine xs_drawn (E := EE []) mixed (by kernel_rfl) (by kernel_rfl) (by kernel_rfl) ?_
  refine lx_loada 10 rfl rfl Tryz.isAgg34 Tryz.sizeOf34 (by simp) rfl rfl ?_
  refine lx_call rfl rfl ent41 (rp_pure) rfl rfl ?_
  refine lx_callB true rfl rfl ent40 (rless_pure _ _ (by simp) (by simp)) (less_y (LO_len (l := 48) (by omega)) hp) rfl rfl ?_
  refine lx_un rfl (fun _ => un_not _) rfl rfl ?_
  refine lx_move rfl rfl rfl ?_
  refine lx_loada 12 rfl rfl Tryz.isAgg34 Tryz.sizeOf34 (by simp) rfl rfl ?_
  refine lx_call rfl rfl ent41 (rp_pure) rfl rfl ?_
  refine lx_callB true rfl rfl ent40 (rless_pure _ _ (by simp) (by simp)) (less_y (LO_len (l := 0) (by omega)) hp2) rfl rfl ?_
  refine lx_un rfl (fun _ => un_not _) rfl rfl ?_
  refine lx_pick rfl rfl rfl rfl rfl ?_
  refine lx_nil ?_
  refine x_false rfl ?_
  refine x_skip ?_
  refine xs_plain (E := EE []) ?_
  refine lx_loada 10 rfl rfl Tryz.isAgg34 Tryz.sizeOf34 (by simp) rfl rfl ?_
  refine lx_loada 12 rfl rfl Tryz.isAgg34 Tryz.sizeOf34 (by simp) rfl rfl ?_
  refine lx_call rfl rfl ent43 (num_2 (LO_len (l := 48) (by omega)) hp (LO_len (l := 0) (by omega)) hp2 hx) rfl rfl ?_
  refine lx_move rfl rfl rfl ?_
  refine lx_bin (v := U8 (FG bs &&& 32#8)) rfl rfl (fun _ => rfl) (fun _ => bin_and_u8 _ _ 32#8) rfl rfl ?_
  refine lx_bin (v := .bool l) rfl rfl (fun _ => rfl) (fun _ => (bin_neq_u8 _ _ 0#8).trans (by rw [hl])) rfl rfl ?_
  refine lx_move rfl rfl rfl ?_
  refine lx_call rfl rfl ent42 (hL) rfl rfl ?_
  refine lx_move rfl rfl rfl ?_
  refine lx_ext rfl rfl rfl rfl ?_
  refine lx_ext rfl rfl rfl rfl ?_
  refine lx_allocr 13 hGF zv40 rfl rfl ?_
  intro b13
  refine lx_storea 13 hGF rfl rfl rfl Tryz.sizeOf40 (by simp) (by simp) (one_u64 _) rfl ?_
  refine lx_assign rfl rfl rfl ?_
  refine lx_nil ?_
  refine x_seq ?_
  refine xs_plain (E := EE []) ?_
  refine lx_move rfl rfl rfl ?_
  refine lx_un rfl (fun _ => un_not _) rfl rfl ?_
  refine lx_move rfl rfl rfl ?_
  refine lx_skip rfl rfl rfl ?_
  refine lx_skip rfl rfl rfl ?_
  refine lx_skip rfl rfl rfl ?_
  refine lx_skip rfl rfl rfl ?_
  refine lx_skip rfl rfl rfl ?_
  refine lx_skip rfl rfl rfl ?_
  refine lx_skip rfl rfl rfl ?_
  refine lx_skip rfl rfl rfl ?_
  refine lx_pick rfl rfl rfl rfl rfl ?_
  refine lx_nil ?_
  refine x_true rfl ?_
  refine xs_plain (E := EE []) ?_
  refine lx_threeN three40 rfl rfl ?_
  refine lx_storea 4 hGF rfl rfl rfl Tryz.sizeOf40 (by simp) (by simp) (one_u64 _) rfl ?_
  refine lx_assign rfl rfl rfl ?_
  refine lx_nil ?_
  refine x_ret ?_
  repeat (first | refine kseq_ret ?_ | refine kblk_ret ?_)
  exact kret_ct 4 rfl rfl rfl rfl Tryz.isAgg40 Tryz.sizeOf40 (by simp) (fun w hw => ⟨rfl, hp_below hw⟩)
theorem r9dec2_z (e : Option Addr) (cap : Nat) (bs : List (BitVec 8)) (h48 : bs.length = 96) (hf : ¬ FG bs &&& 128#8 = 0#8) (h6 : FG bs &&& 64#8 = 0#8) (hp : BN (LO bs 48) 48 < PP) (hp2 : BN (LO bs 0) 48 < PP) (x y : W2) (hx : (zp (BN (LO bs 48) 48), zp (BN (LO bs 0) 48)) = x) (hl : (FG bs &&& 32#8 != 0#8) = true) (hL : Pure Tryz.prog Gt 42 [EV2 x, .bool true, .bool true] (.tuple #[EV6 (x, y, on2), .bool true])) (hz : decide (y = ze2) = true) (w : World) (hw : Gt w) (hby : BytesAt w e bs) :
    Calls Tryz.prog 11 [.slice e bs.length cap, .bool true].toArray w (fun r w' => r = .returned (.tuple #[EV6 (ze2, ze2, ze2), I 103]) ∧ Grow w w') := by
  have hGF : BOk Gt (pl w) := gt_low.plain hw
  refine calls_of_X (G := Gt) Tryz.func11 rfl rfl (Hp (pl w) []) (hp_refl (pl w) trivial rides_true) (good_hp hGF) ?_
  refine xs_plain (E := EE []) ?_
  refine lx_allocr 4 hGF zv40 rfl rfl ?_
  intro b4
  refine lx_assign rfl rfl rfl ?_
  refine lx_nil ?_
  refine xs_plain (E := EE []) ?_
  refine lx_assign rfl rfl rfl ?_
  refine lx_nil ?_
  refine x_seq ?_
  refine xs_plain (E := EE []) ?_
  refine lx_move rfl rfl rfl ?_
  refine lx_nil ?_
  refine x_true rfl ?_
  refine x_plain (E := EE []) ?_
  refine lx_assign rfl rfl rfl ?_
  refine lx_nil ?_
  refine x_seq ?_
  refine xs_plain (E := EE []) ?_
  refine lx_move rfl rfl rfl ?_
  refine lx_len rfl (fun _ => len_slice Tryz.underlying22 _ _ _ _) rfl rfl ?_
  refine lx_move rfl rfl rfl ?_
  refine lx_binB false rfl rfl (fun _ => rfl) (fun _ => bin_neq_i _ _ _) (bne_eq_false_iff_eq.2 (by omega)) rfl rfl ?_
  refine lx_nil ?_
  refine x_false rfl ?_
  refine x_skip ?_
  refine xs_plain (E := EE []) ?_
  refine lx_move rfl rfl rfl ?_
  obtain ⟨ad, rfl, _⟩ := hby 0 _ (gm U8 bs 0 0 (by omega))
  refine lx_isA 0 rfl rfl Tryz.underlying22 Tryz.sizeOf5 rfl (by omega) rfl rfl ?_
  refine lx_load rfl Tryz.isAgg5 (fun w' h => by obtain ⟨ad', e, hc⟩ := (hby.grow (hp_below h)) 0 _ (gm U8 bs 0 0 (by omega)); cases e; exact hc) rfl rfl ?_
  refine lx_bin (v := U8 (FG bs)) rfl rfl (fun _ => rfl) (fun _ => bin_and_u8 _ _ 224#8) rfl rfl ?_
  refine lx_assign rfl rfl rfl ?_
  refine lx_nil ?_
  refine xs_plain (E := EE []) ?_
  refine lx_move rfl rfl rfl ?_
  refine lx_append (xs := []) (ys := bs) 7 hGF rfl rfl Tryz.underlying22 Tryz.underlying22 ti5 (.inl ⟨rfl, rfl, rfl⟩) (fun w' h => hby.grow (hp_below h)) (by simp; omega) rfl rfl (fun h0 => absurd (congrArg List.length h0) (by show ¬ bs.length = 0; omega)) (fun b7 c7 k7 q1 q2 q3 => ?_)
  have q0 : bs.length ≤ c7.length := by rw [q1]; exact q2
  refine lx_assign rfl rfl rfl ?_
  refine lx_nil ?_
  refine xs_plain (E := EE []) ?_
  refine lx_move rfl rfl rfl ?_
  refine lx_move rfl rfl rfl ?_
  refine lx_isA 0 rfl rfl Tryz.underlying22 Tryz.sizeOf5 rfl (by show 0 < bs.length; omega) rfl rfl ?_
  refine lx_load (v := U8 (bs.getD 0 0)) rfl Tryz.isAgg5 (fun w' h => hp_cell (n := 7) rfl (tk_at (xs := bs) q3 0 (by omega)) w' h) rfl rfl ?_
  refine lx_bin (v := U8 (bs.getD 0 0 &&& 31#8)) rfl rfl (fun _ => rfl) (fun _ => bin_and_u8 _ _ 31#8) rfl rfl ?_
  refine lx_isA 0 rfl rfl Tryz.underlying22 Tryz.sizeOf5 rfl (by show 0 < bs.length; omega) rfl rfl ?_
  refine lx_store 7 hGF rfl rfl rfl Tryz.sizeOf5 rfl (by show 0 < c7.length; omega) rfl ?_
  refine lx_nil ?_
  refine x_seq ?_
  refine xs_plain (E := EE []) ?_
  refine lx_move rfl rfl rfl ?_
  refine lx_bin (v := U8 (FG bs &&& 128#8)) rfl rfl (fun _ => rfl) (fun _ => bin_and_u8 _ _ 128#8) rfl rfl ?_
  refine lx_binB false rfl rfl (fun _ => rfl) (fun _ => bin_eql_u8 _ _ 0#8) (beq_eq_false_iff_ne.2 hf) rfl rfl ?_
  refine lx_nil ?_
  refine x_false rfl ?_
  refine x_skip ?_
  refine x_seq ?_
  refine xs_plain (E := EE []) ?_
  refine lx_move rfl rfl rfl ?_
  refine lx_bin (v := U8 (FG bs &&& 64#8)) rfl rfl (fun _ => rfl) (fun _ => bin_and_u8 _ _ 64#8) rfl rfl ?_
  refine lx_binB false rfl rfl (fun _ => rfl) (fun _ => bin_neq_u8 _ _ 0#8) ((bne_eq_false_iff_eq).2 h6) rfl rfl ?_
  refine lx_nil ?_
  refine x_false rfl ?_
  refine x_skip ?_
  refine xs_plain (E := EE []) ?_
  refine lx_move rfl rfl rfl ?_
  refine lx_move rfl rfl rfl ?_
  refine lx_bin (v := I 48) rfl rfl (fun _ => rfl) (fun _ => bin_sub_i _ _ _ (by unfold inI; omega)) rfl rfl ?_
  refine lx_slsl (l := 48) (h' := bs.length) rfl Tryz.underlying22 Tryz.sizeOf5 rfl rfl ⟨by omega, q2⟩ rfl rfl ?_
  refine lx_callC rfl rfl ent39 (fun w' hC hG => rfrom_lo b7 k7 _ _ 48 bs c7 q3 (by omega) (by omega) q2 w' hG (hp_row (n := 7) rfl w' hC)) rfl rfl ?_
  refine lx_move rfl rfl rfl ?_
  refine lx_ext rfl rfl rfl rfl ?_
  refine lx_ext rfl rfl rfl rfl ?_
  refine lx_allocr 10 hGF zv34 rfl rfl ?_
  intro b10
  refine lx_storea 10 hGF rfl rfl rfl Tryz.sizeOf34 (by simp) (by simp) (one_u64 _) rfl ?_
  refine lx_assign rfl rfl rfl ?_
  refine lx_nil ?_
  refine xs_plain (E := EE []) ?_
  refine lx_buildz zv34 Tryz.underlying34 Tryz.sizeOf25 rfl rfl ?_
  refine lx_allocr 12 hGF zv34 rfl rfl ?_
  intro b12
  refine lx_storea 12 hGF rfl rfl rfl Tryz.sizeOf34 (by rw [List.length_map, List.length_replicate]) (by simp) (one_u64 _) rfl ?_
  refine lx_nil ?_
  refine x_seq ?_
  refine xs_plain (E := EE []) ?_
  refine lx_move rfl rfl rfl ?_
  refine lx_nil ?_
  refine x_true rfl ?_
  refine x_plain (E := EE []) ?_
  refine lx_move rfl rfl rfl ?_
  refine lx_slsl (l := 0) (h' := 48) rfl Tryz.underlying22 Tryz.sizeOf5 rfl rfl ⟨by omega, Nat.le_trans (show 48 ≤ bs.length by omega) q2⟩ rfl rfl ?_
  refine lx_callC rfl rfl ent39 (fun w' hC hG => rfrom_lo b7 k7 _ _ 0 bs c7 q3 (by omega) (by omega) q2 w' hG (hp_row (n := 7) rfl w' hC)) rfl rfl ?_
  refine lx_move rfl rfl rfl ?_
  refine lx_ext rfl rfl rfl rfl ?_
  refine lx_ext rfl rfl rfl rfl ?_
  refine lx_storea 12 hGF rfl rfl rfl Tryz.sizeOf34 (by simp) (by simp) (one_u64 _) rfl ?_
  refine lx_nil ?_
  refine x_seq ?_
  refine xs_drawn (E := EE []) mixed (by kernel_rfl) (by kernel_rfl) (by kernel_rfl) ?_
  refine lx_loada 10 rfl rfl Tryz.isAgg34 Tryz.sizeOf34 (by simp) rfl rfl ?_
  refine lx_call rfl rfl ent41 (rp_pure) rfl rfl ?_
  refine lx_callB true rfl rfl ent40 (rless_pure _ _ (by simp) (by simp)) (less_y (LO_len (l := 48) (by omega)) hp) rfl rfl ?_
  refine lx_un rfl (fun _ => un_not _) rfl rfl ?_
  refine lx_move rfl rfl rfl ?_
  refine lx_loada 12 rfl rfl Tryz.isAgg34 Tryz.sizeOf34 (by simp) rfl rfl ?_
  refine lx_call rfl rfl ent41 (rp_pure) rfl rfl ?_
  refine lx_callB true rfl rfl ent40 (rless_pure _ _ (by simp) (by simp)) (less_y (LO_len (l := 0) (by omega)) hp2) rfl rfl ?_
  refine lx_un rfl (fun _ => un_not _) rfl rfl ?_
  refine lx_pick rfl rfl rfl rfl rfl ?_
  refine lx_nil ?_
  refine x_false rfl ?_
  refine x_skip ?_
  refine xs_plain (E := EE []) ?_
  refine lx_loada 10 rfl rfl Tryz.isAgg34 Tryz.sizeOf34 (by simp) rfl rfl ?_
  refine lx_loada 12 rfl rfl Tryz.isAgg34 Tryz.sizeOf34 (by simp) rfl rfl ?_
  refine lx_call rfl rfl ent43 (num_2 (LO_len (l := 48) (by omega)) hp (LO_len (l := 0) (by omega)) hp2 hx) rfl rfl ?_
  refine lx_move rfl rfl rfl ?_
  refine lx_bin (v := U8 (FG bs &&& 32#8)) rfl rfl (fun _ => rfl) (fun _ => bin_and_u8 _ _ 32#8) rfl rfl ?_
  refine lx_binB true rfl rfl (fun _ => rfl) (fun _ => bin_neq_u8 _ _ 0#8) (hl) rfl rfl ?_
  refine lx_move rfl rfl rfl ?_
  refine lx_call rfl rfl ent42 (hL) rfl rfl ?_
  refine lx_move rfl rfl rfl ?_
  refine lx_ext rfl rfl rfl rfl ?_
  refine lx_ext rfl rfl rfl rfl ?_
  refine lx_allocr 13 hGF zv40 rfl rfl ?_
  intro b13
  refine lx_storea 13 hGF rfl rfl rfl Tryz.sizeOf40 (by simp) (by simp) (one_u64 _) rfl ?_
  refine lx_assign rfl rfl rfl ?_
  refine lx_nil ?_
  refine x_seq ?_
  refine xs_plain (E := EE []) ?_
  refine lx_move rfl rfl rfl ?_
  refine lx_un rfl (fun _ => un_not _) rfl rfl ?_
  refine lx_move rfl rfl rfl ?_
  refine lx_fak 12 rfl Tryz.underlying40 rfl Tryz.sizeOf38 (by decide) rfl rfl rfl ?_
  refine lx_loado 13 _ rfl rfl Tryz.isAgg38 Tryz.sizeOf38 (by simp) (ld_m (by simp)) rfl rfl ?_
  refine lx_callB true rfl rfl ent44 (r5isZero _) (hz) rfl rfl ?_
  refine lx_move rfl rfl rfl ?_
  refine lx_move rfl rfl rfl ?_
  refine lx_bin (v := U8 (FG bs &&& 32#8)) rfl rfl (fun _ => rfl) (fun _ => bin_and_u8 _ _ 32#8) rfl rfl ?_
  refine lx_binB true rfl rfl (fun _ => rfl) (fun _ => bin_neq_u8 _ _ 0#8) (hl) rfl rfl ?_
  refine lx_pick rfl rfl rfl rfl rfl ?_
  refine lx_pick rfl rfl rfl rfl rfl ?_
  refine lx_nil ?_
  refine x_true rfl ?_
  refine xs_plain (E := EE []) ?_
  refine lx_threeN three40 rfl rfl ?_
  refine lx_storea 4 hGF rfl rfl rfl Tryz.sizeOf40 (by simp) (by simp) (one_u64 _) rfl ?_
  refine lx_assign rfl rfl rfl ?_
  refine lx_nil ?_
  refine x_ret ?_
  repeat (first | refine kseq_ret ?_ | refine kblk_ret ?_)
  exact kret_ct 4 rfl rfl rfl rfl Tryz.isAgg40 Tryz.sizeOf40 (by simp) (fun w hw => ⟨rfl, hp_below hw⟩)
theorem r9dec2_tft (e : Option Addr) (cap : Nat) (bs : List (BitVec 8)) (h48 : bs.length = 96) (hf : ¬ FG bs &&& 128#8 = 0#8) (h6 : FG bs &&& 64#8 = 0#8) (hp : BN (LO bs 48) 48 < PP) (hp2 : BN (LO bs 0) 48 < PP) (x y : W2) (hx : (zp (BN (LO bs 48) 48), zp (BN (LO bs 0) 48)) = x) (hl : (FG bs &&& 32#8 != 0#8) = true) (hL : Pure Tryz.prog Gt 42 [EV2 x, .bool true, .bool true] (.tuple #[EV6 (x, y, on2), .bool true])) (hz : decide (y = ze2) = false) (hg : decide ((RMJ (x, y, on2) ORB (8 * 32)).2.2 = ze2) = true) (w : World) (hw : Gt w) (hby : BytesAt w e bs) :
    Calls Tryz.prog 11 [.slice e bs.length cap, .bool true].toArray w (fun r w' => r = .returned (.tuple #[EV6 (x, y, on2), I 0]) ∧ Grow w w') := by
  have hGF : BOk Gt (pl w) := gt_low.plain hw
  refine calls_of_X (G := Gt) Tryz.func11 rfl rfl (Hp (pl w) []) (hp_refl (pl w) trivial rides_true) (good_hp hGF) ?_
  refine xs_plain (E := EE []) ?_
  refine lx_allocr 4 hGF zv40 rfl rfl ?_
  intro b4
  refine lx_assign rfl rfl rfl ?_
  refine lx_nil ?_
  refine xs_plain (E := EE []) ?_
  refine lx_assign rfl rfl rfl ?_
  refine lx_nil ?_
  refine x_seq ?_
  refine xs_plain (E := EE []) ?_
  refine lx_move rfl rfl rfl ?_
  refine lx_nil ?_
  refine x_true rfl ?_
  refine x_plain (E := EE []) ?_
  refine lx_assign rfl rfl rfl ?_
  refine lx_nil ?_
  refine x_seq ?_
  refine xs_plain (E := EE []) ?_
  refine lx_move rfl rfl rfl ?_
  refine lx_len rfl (fun _ => len_slice Tryz.underlying22 _ _ _ _) rfl rfl ?_
  refine lx_move rfl rfl rfl ?_
  refine lx_binB false rfl rfl (fun _ => rfl) (fun _ => bin_neq_i _ _ _) (bne_eq_false_iff_eq.2 (by omega)) rfl rfl ?_
  refine lx_nil ?_
  refine x_false rfl ?_
  refine x_skip ?_
  refine xs_plain (E := EE []) ?_
  refine lx_move rfl rfl rfl ?_
  obtain ⟨ad, rfl, _⟩ := hby 0 _ (gm U8 bs 0 0 (by omega))
  refine lx_isA 0 rfl rfl Tryz.underlying22 Tryz.sizeOf5 rfl (by omega) rfl rfl ?_
  refine lx_load rfl Tryz.isAgg5 (fun w' h => by obtain ⟨ad', e, hc⟩ := (hby.grow (hp_below h)) 0 _ (gm U8 bs 0 0 (by omega)); cases e; exact hc) rfl rfl ?_
  refine lx_bin (v := U8 (FG bs)) rfl rfl (fun _ => rfl) (fun _ => bin_and_u8 _ _ 224#8) rfl rfl ?_
  refine lx_assign rfl rfl rfl ?_
  refine lx_nil ?_
  refine xs_plain (E := EE []) ?_
  refine lx_move rfl rfl rfl ?_
  refine lx_append (xs := []) (ys := bs) 7 hGF rfl rfl Tryz.underlying22 Tryz.underlying22 ti5 (.inl ⟨rfl, rfl, rfl⟩) (fun w' h => hby.grow (hp_below h)) (by simp; omega) rfl rfl (fun h0 => absurd (congrArg List.length h0) (by show ¬ bs.length = 0; omega)) (fun b7 c7 k7 q1 q2 q3 => ?_)
  have q0 : bs.length ≤ c7.length := by rw [q1]; exact q2
  refine lx_assign rfl rfl rfl ?_
  refine lx_nil ?_
  refine xs_plain (E := EE []) ?_
  refine lx_move rfl rfl rfl ?_
  refine lx_move rfl rfl rfl ?_
  refine lx_isA 0 rfl rfl Tryz.underlying22 Tryz.sizeOf5 rfl (by show 0 < bs.length; omega) rfl rfl ?_
  refine lx_load (v := U8 (bs.getD 0 0)) rfl Tryz.isAgg5 (fun w' h => hp_cell (n := 7) rfl (tk_at (xs := bs) q3 0 (by omega)) w' h) rfl rfl ?_
  refine lx_bin (v := U8 (bs.getD 0 0 &&& 31#8)) rfl rfl (fun _ => rfl) (fun _ => bin_and_u8 _ _ 31#8) rfl rfl ?_
  refine lx_isA 0 rfl rfl Tryz.underlying22 Tryz.sizeOf5 rfl (by show 0 < bs.length; omega) rfl rfl ?_
  refine lx_store 7 hGF rfl rfl rfl Tryz.sizeOf5 rfl (by show 0 < c7.length; omega) rfl ?_
  refine lx_nil ?_
  refine x_seq ?_
  refine xs_plain (E := EE []) ?_
  refine lx_move rfl rfl rfl ?_
  refine lx_bin (v := U8 (FG bs &&& 128#8)) rfl rfl (fun _ => rfl) (fun _ => bin_and_u8 _ _ 128#8) rfl rfl ?_
  refine lx_binB false rfl rfl (fun _ => rfl) (fun _ => bin_eql_u8 _ _ 0#8) (beq_eq_false_iff_ne.2 hf) rfl rfl ?_
  refine lx_nil ?_
  refine x_false rfl ?_
  refine x_skip ?_
  refine x_seq ?_
  refine xs_plain (E := EE []) ?_
  refine lx_move rfl rfl rfl ?_
  refine lx_bin (v := U8 (FG bs &&& 64#8)) rfl rfl (fun _ => rfl) (fun _ => bin_and_u8 _ _ 64#8) rfl rfl ?_
  refine lx_binB false rfl rfl (fun _ => rfl) (fun _ => bin_neq_u8 _ _ 0#8) ((bne_eq_false_iff_eq).2 h6) rfl rfl ?_
  refine lx_nil ?_
  refine x_false rfl ?_
  refine x_skip ?_
  refine xs_plain (E := EE []) ?_
  refine lx_move rfl rfl rfl ?_
  refine lx_move rfl rfl rfl ?_
  refine lx_bin (v := I 48) rfl rfl (fun _ => rfl) (fun _ => bin_sub_i _ _ _ (by unfold inI; omega)) rfl rfl ?_
  refine lx_slsl (l := 48) (h' := bs.length) rfl Tryz.underlying22 Tryz.sizeOf5 rfl rfl ⟨by omega, q2⟩ rfl rfl ?_
  refine lx_callC rfl rfl ent39 (fun w' hC hG => rfrom_lo b7 k7 _ _ 48 bs c7 q3 (by omega) (by omega) q2 w' hG (hp_row (n := 7) rfl w' hC)) rfl rfl ?_
  refine lx_move rfl rfl rfl ?_
  refine lx_ext rfl rfl rfl rfl ?_
  refine lx_ext rfl rfl rfl rfl ?_
  refine lx_allocr 10 hGF zv34 rfl rfl ?_
  intro b10
  refine lx_storea 10 hGF rfl rfl rfl Tryz.sizeOf34 (by simp) (by simp) (one_u64 _) rfl ?_
  refine lx_assign rfl rfl rfl ?_
  refine lx_nil ?_
  refine xs_plain (E := EE []) ?_
  refine lx_buildz zv34 Tryz.underlying34 Tryz.sizeOf25 rfl rfl ?_
  refine lx_allocr 12 hGF zv34 rfl rfl ?_
  intro b12
  refine lx_storea 12 hGF rfl rfl rfl Tryz.sizeOf34 (by rw [List.length_map, List.length_replicate]) (by simp) (one_u64 _) rfl ?_
  refine lx_nil ?_
  refine x_seq ?_
  refine xs_plain (E := EE []) ?_
  refine lx_move rfl rfl rfl ?_
  refine lx_nil ?_
  refine x_true rfl ?_
  refine x_plain (E := EE []) ?_
  refine lx_move rfl rfl rfl ?_
  refine lx_slsl (l := 0) (h' := 48) rfl Tryz.underlying22 Tryz.sizeOf5 rfl rfl ⟨by omega, Nat.le_trans (show 48 ≤ bs.length by omega) q2⟩ rfl rfl ?_
  refine lx_callC rfl rfl ent39 (fun w' hC hG => rfrom_lo b7 k7 _ _ 0 bs c7 q3 (by omega) (by omega) q2 w' hG (hp_row (n := 7) rfl w' hC)) rfl rfl ?_
  refine lx_move rfl rfl rfl ?_
  refine lx_ext rfl rfl rfl rfl ?_
  refine lx_ext rfl rfl rfl rfl ?_
  refine lx_storea 12 hGF rfl rfl rfl Tryz.sizeOf34 (by simp) (by simp) (one_u64 _) rfl ?_
  refine lx_nil ?_
  refine x_seq ?_
  refine xs_drawn (E := EE []) mixed (by kernel_rfl) (by kernel_rfl) (by kernel_rfl) ?_
  refine lx_loada 10 rfl rfl Tryz.isAgg34 Tryz.sizeOf34 (by simp) rfl rfl ?_
  refine lx_call rfl rfl ent41 (rp_pure) rfl rfl ?_
  refine lx_callB true rfl rfl ent40 (rless_pure _ _ (by simp) (by simp)) (less_y (LO_len (l := 48) (by omega)) hp) rfl rfl ?_
  refine lx_un rfl (fun _ => un_not _) rfl rfl ?_
  refine lx_move rfl rfl rfl ?_
  refine lx_loada 12 rfl rfl Tryz.isAgg34 Tryz.sizeOf34 (by simp) rfl rfl ?_
  refine lx_call rfl rfl ent41 (rp_pure) rfl rfl ?_
  refine lx_callB true rfl rfl ent40 (rless_pure _ _ (by simp) (by simp)) (less_y (LO_len (l := 0) (by omega)) hp2) rfl rfl ?_
  refine lx_un rfl (fun _ => un_not _) rfl rfl ?_
  refine lx_pick rfl rfl rfl rfl rfl ?_
  refine lx_nil ?_
  refine x_false rfl ?_
  refine x_skip ?_
  refine xs_plain (E := EE []) ?_
  refine lx_loada 10 rfl rfl Tryz.isAgg34 Tryz.sizeOf34 (by simp) rfl rfl ?_
  refine lx_loada 12 rfl rfl Tryz.isAgg34 Tryz.sizeOf34 (by simp) rfl rfl ?_
  refine lx_call rfl rfl ent43 (num_2 (LO_len (l := 48) (by omega)) hp (LO_len (l := 0) (by omega)) hp2 hx) rfl rfl ?_
  refine lx_move rfl rfl rfl ?_
  refine lx_bin (v := U8 (FG bs &&& 32#8)) rfl rfl (fun _ => rfl) (fun _ => bin_and_u8 _ _ 32#8) rfl rfl ?_
  refine lx_binB true rfl rfl (fun _ => rfl) (fun _ => bin_neq_u8 _ _ 0#8) (hl) rfl rfl ?_
  refine lx_move rfl rfl rfl ?_
  refine lx_call rfl rfl ent42 (hL) rfl rfl ?_
  refine lx_move rfl rfl rfl ?_
  refine lx_ext rfl rfl rfl rfl ?_
  refine lx_ext rfl rfl rfl rfl ?_
  refine lx_allocr 13 hGF zv40 rfl rfl ?_
  intro b13
  refine lx_storea 13 hGF rfl rfl rfl Tryz.sizeOf40 (by simp) (by simp) (one_u64 _) rfl ?_
  refine lx_assign rfl rfl rfl ?_
  refine lx_nil ?_
  refine x_seq ?_
  refine xs_plain (E := EE []) ?_
  refine lx_move rfl rfl rfl ?_
  refine lx_un rfl (fun _ => un_not _) rfl rfl ?_
  refine lx_move rfl rfl rfl ?_
  refine lx_fak 12 rfl Tryz.underlying40 rfl Tryz.sizeOf38 (by decide) rfl rfl rfl ?_
  refine lx_loado 13 _ rfl rfl Tryz.isAgg38 Tryz.sizeOf38 (by simp) (ld_m (by simp)) rfl rfl ?_
  refine lx_callB false rfl rfl ent44 (r5isZero _) (hz) rfl rfl ?_
  refine lx_move rfl rfl rfl ?_
  refine lx_skip rfl rfl rfl ?_
  refine lx_skip rfl rfl rfl ?_
  refine lx_skip rfl rfl rfl ?_
  refine lx_pick rfl rfl rfl rfl rfl ?_
  refine lx_pick rfl rfl rfl rfl rfl ?_
  refine lx_nil ?_
  refine x_false rfl ?_
  refine x_skip ?_
  refine x_seq ?_
  refine xs_plain (E := EE []) ?_
  refine lx_loada 13 rfl rfl Tryz.isAgg40 Tryz.sizeOf40 (by simp) rfl rfl ?_
  refine lx_callB true rfl rfl ent45 (r9inGroup _) (hg) rfl rfl ?_
  refine lx_un rfl (fun _ => un_not _) rfl rfl ?_
  refine lx_nil ?_
  refine x_false rfl ?_
  refine x_skip ?_
  refine xs_plain (E := EE []) ?_
  refine lx_loada 13 rfl rfl Tryz.isAgg40 Tryz.sizeOf40 (by simp) rfl rfl ?_
  refine lx_storea 4 hGF rfl rfl rfl Tryz.sizeOf40 (by simp) (by simp) (one_u64 _) rfl ?_
  refine lx_assign rfl rfl rfl ?_
  refine lx_nil ?_
  refine x_ret ?_
  repeat (first | refine kseq_ret ?_ | refine kblk_ret ?_)
  exact kret_ct 4 rfl rfl rfl rfl Tryz.isAgg40 Tryz.sizeOf40 (by simp) (fun w hw => ⟨rfl, hp_below hw⟩)
theorem r9dec2_tff (e : Option Addr) (cap : Nat) (bs : List (BitVec 8)) (h48 : bs.length = 96) (hf : ¬ FG bs &&& 128#8 = 0#8) (h6 : FG bs &&& 64#8 = 0#8) (hp : BN (LO bs 48) 48 < PP) (hp2 : BN (LO bs 0) 48 < PP) (x y : W2) (hx : (zp (BN (LO bs 48) 48), zp (BN (LO bs 0) 48)) = x) (hl : (FG bs &&& 32#8 != 0#8) = true) (hL : Pure Tryz.prog Gt 42 [EV2 x, .bool true, .bool true] (.tuple #[EV6 (x, y, on2), .bool true])) (hz : decide (y = ze2) = false) (hg : decide ((RMJ (x, y, on2) ORB (8 * 32)).2.2 = ze2) = false) (w : World) (hw : Gt w) (hby : BytesAt w e bs) :
    Calls Tryz.prog 11 [.slice e bs.length cap, .bool true].toArray w (fun r w' => r = .returned (.tuple #[EV6 (ze2, ze2, ze2), I 104]) ∧ Grow w w') := by
  have hGF : BOk Gt (pl w) := gt_low.plain hw
  refine calls_of_X (G := Gt) Tryz.func11 rfl rfl (Hp (pl w) []) (hp_refl (pl w) trivial rides_true) (good_hp hGF) ?_
  refine xs_plain (E := EE []) ?_
  refine lx_allocr 4 hGF zv40 rfl rfl ?_
  intro b4
  refine lx_assign rfl rfl rfl ?_
  refine lx_nil ?_
  refine xs_plain (E := EE []) ?_
  refine lx_assign rfl rfl rfl ?_
  refine lx_nil ?_
  refine x_seq ?_
  refine xs_plain (E := EE []) ?_
  refine lx_move rfl rfl rfl ?_
  refine lx_nil ?_
  refine x_true rfl ?_
  refine x_plain (E := EE []) ?_
  refine lx_assign rfl rfl rfl ?_
  refine lx_nil ?_
  refine x_seq ?_
  refine xs_plain (E := EE []) ?_
  refine lx_move rfl rfl rfl ?_
  refine lx_len rfl (fun _ => len_slice Tryz.underlying22 _ _ _ _) rfl rfl ?_
  refine lx_move rfl rfl rfl ?_
  refine lx_binB false rfl rfl (fun _ => rfl) (fun _ => bin_neq_i _ _ _) (bne_eq_false_iff_eq.2 (by omega)) rfl rfl ?_
  refine lx_nil ?_
  refine x_false rfl ?_
  refine x_skip ?_
  refine xs_plain (E := EE []) ?_
  refine lx_move rfl rfl rfl ?_
  obtain ⟨ad, rfl, _⟩ := hby 0 _ (gm U8 bs 0 0 (by omega))
  refine lx_isA 0 rfl rfl Tryz.underlying22 Tryz.sizeOf5 rfl (by omega) rfl rfl ?_
  refine lx_load rfl Tryz.isAgg5 (fun w' h => by obtain ⟨ad', e, hc⟩ := (hby.grow (hp_below h)) 0 _ (gm U8 bs 0 0 (by omega)); cases e; exact hc) rfl rfl ?_
  refine lx_bin (v := U8 (FG bs)) rfl rfl (fun _ => rfl) (fun _ => bin_and_u8 _ _ 224#8) rfl rfl ?_
  refine lx_assign rfl rfl rfl ?_
  refine lx_nil ?_
  refine xs_plain (E := EE []) ?_
  refine lx_move rfl rfl rfl ?_
  refine lx_append (xs := []) (ys := bs) 7 hGF rfl rfl Tryz.underlying22 Tryz.underlying22 ti5 (.inl ⟨rfl, rfl, rfl⟩) (fun w' h => hby.grow (hp_below h)) (by simp; omega) rfl rfl (fun h0 => absurd (congrArg List.length h0) (by show ¬ bs.length = 0; omega)) (fun b7 c7 k7 q1 q2 q3 => ?_)
  have q0 : bs.length ≤ c7.length := by rw [q1]; exact q2
  refine lx_assign rfl rfl rfl ?_
  refine lx_nil ?_
  refine xs_plain (E := EE []) ?_
  refine lx_move rfl rfl rfl ?_
  refine lx_move rfl rfl rfl ?_
  refine lx_isA 0 rfl rfl Tryz.underlying22 Tryz.sizeOf5 rfl (by show 0 < bs.length; omega) rfl rfl ?_
  refine lx_load (v := U8 (bs.getD 0 0)) rfl Tryz.isAgg5 (fun w' h => hp_cell (n := 7) rfl (tk_at (xs := bs) q3 0 (by omega)) w' h) rfl rfl ?_
  refine lx_bin (v := U8 (bs.getD 0 0 &&& 31#8)) rfl rfl (fun _ => rfl) (fun _ => bin_and_u8 _ _ 31#8) rfl rfl ?_
  refine lx_isA 0 rfl rfl Tryz.underlying22 Tryz.sizeOf5 rfl (by show 0 < bs.length; omega) rfl rfl ?_
  refine lx_store 7 hGF rfl rfl rfl Tryz.sizeOf5 rfl (by show 0 < c7.length; omega) rfl ?_
  refine lx_nil ?_
  refine x_seq ?_
  refine xs_plain (E := EE []) ?_
  refine lx_move rfl rfl rfl ?_
  refine lx_bin (v := U8 (FG bs &&& 128#8)) rfl rfl (fun _ => rfl) (fun _ => bin_and_u8 _ _ 128#8) rfl rfl ?_
  refine lx_binB false rfl rfl (fun _ => rfl) (fun _ => bin_eql_u8 _ _ 0#8) (beq_eq_false_iff_ne.2 hf) rfl rfl ?_
  refine lx_nil ?_
  refine x_false rfl ?_
  refine x_skip ?_
  refine x_seq ?_
  refine xs_plain (E := EE []) ?_
  refine lx_move rfl rfl rfl ?_
  refine lx_bin (v := U8 (FG bs &&& 64#8)) rfl rfl (fun _ => rfl) (fun _ => bin_and_u8 _ _ 64#8) rfl rfl ?_
  refine lx_binB false rfl rfl (fun _ => rfl) (fun _ => bin_neq_u8 _ _ 0#8) ((bne_eq_false_iff_eq).2 h6) rfl rfl ?_
  refine lx_nil ?_
  refine x_false rfl ?_
  refine x_skip ?_
  refine xs_plain (E := EE []) ?_
  refine lx_move rfl rfl rfl ?_
  refine lx_move rfl rfl rfl ?_
  refine lx_bin (v := I 48) rfl rfl (fun _ => rfl) (fun _ => bin_sub_i _ _ _ (by unfold inI; omega)) rfl rfl ?_
  refine lx_slsl (l := 48) (h' := bs.length) rfl Tryz.underlying22 Tryz.sizeOf5 rfl rfl ⟨by omega, q2⟩ rfl rfl ?_
  refine lx_callC rfl rfl ent39 (fun w' hC hG => rfrom_lo b7 k7 _ _ 48 bs c7 q3 (by omega) (by omega) q2 w' hG (hp_row (n := 7) rfl w' hC)) rfl rfl ?_
  refine lx_move rfl rfl rfl ?_
  refine lx_ext rfl rfl rfl rfl ?_
  refine lx_ext rfl rfl rfl rfl ?_
  refine lx_allocr 10 hGF zv34 rfl rfl ?_
  intro b10
  refine lx_storea 10 hGF rfl rfl rfl Tryz.sizeOf34 (by simp) (by simp) (one_u64 _) rfl ?_
  refine lx_assign rfl rfl rfl ?_
  refine lx_nil ?_
  refine xs_plain (E := EE []) ?_
  refine lx_buildz zv34 Tryz.underlying34 Tryz.sizeOf25 rfl rfl ?_
  refine lx_allocr 12 hGF zv34 rfl rfl ?_
  intro b12
  refine lx_storea 12 hGF rfl rfl rfl Tryz.sizeOf34 (by rw [List.length_map, List.length_replicate]) (by simp) (one_u64 _) rfl ?_
  refine lx_nil ?_
  refine x_seq ?_
  refine xs_plain (E := EE []) ?_
  refine lx_move rfl rfl rfl ?_
  refine lx_nil ?_
  refine x_true rfl ?_
  refine x_plain (E := EE []) ?_
  refine lx_move rfl rfl rfl ?_
  refine lx_slsl (l := 0) (h' := 48) rfl Tryz.underlying22 Tryz.sizeOf5 rfl rfl ⟨by omega, Nat.le_trans (show 48 ≤ bs.length by omega) q2⟩ rfl rfl ?_
  refine lx_callC rfl rfl ent39 (fun w' hC hG => rfrom_lo b7 k7 _ _ 0 bs c7 q3 (by omega) (by omega) q2 w' hG (hp_row (n := 7) rfl w' hC)) rfl rfl ?_
  refine lx_move rfl rfl rfl ?_
  refine lx_ext rfl rfl rfl rfl ?_
  refine lx_ext rfl rfl rfl rfl ?_
  refine lx_storea 12 hGF rfl rfl rfl Tryz.sizeOf34 (by simp) (by simp) (one_u64 _) rfl ?_
  refine lx_nil ?_
  refine x_seq ?_
  refine xs_drawn (E := EE []) mixed (by kernel_rfl) (by kernel_rfl) (by kernel_rfl) ?_
  refine lx_loada 10 rfl rfl Tryz.isAgg34 Tryz.sizeOf34 (by simp) rfl rfl ?_
  refine lx_call rfl rfl ent41 (rp_pure) rfl rfl ?_
  refine lx_callB true rfl rfl ent40 (rless_pure _ _ (by simp) (by simp)) (less_y (LO_len (l := 48) (by omega)) hp) rfl rfl ?_
  refine lx_un rfl (fun _ => un_not _) rfl rfl ?_
  refine lx_move rfl rfl rfl ?_
  refine lx_loada 12 rfl rfl Tryz.isAgg34 Tryz.sizeOf34 (by simp) rfl rfl ?_
  refine lx_call rfl rfl ent41 (rp_pure) rfl rfl ?_
  refine lx_callB true rfl rfl ent40 (rless_pure _ _ (by simp) (by simp)) (less_y (LO_len (l := 0) (by omega)) hp2) rfl rfl ?_
  refine lx_un rfl (fun _ => un_not _) rfl rfl ?_
  refine lx_pick rfl rfl rfl rfl rfl ?_
  refine lx_nil ?_
  refine x_false rfl ?_
  refine x_skip ?_
  refine xs_plain (E := EE []) ?_
  refine lx_loada 10 rfl rfl Tryz.isAgg34 Tryz.sizeOf34 (by simp) rfl rfl ?_
  refine lx_loada 12 rfl rfl Tryz.isAgg34 Tryz.sizeOf34 (by simp) rfl rfl ?_
  refine lx_call rfl rfl ent43 (num_2 (LO_len (l := 48) (by omega)) hp (LO_len (l := 0) (by omega)) hp2 hx) rfl rfl ?_
  refine lx_move rfl rfl rfl ?_
  refine lx_bin (v := U8 (FG bs &&& 32#8)) rfl rfl (fun _ => rfl) (fun _ => bin_and_u8 _ _ 32#8) rfl rfl ?_
  refine lx_binB true rfl rfl (fun _ => rfl) (fun _ => bin_neq_u8 _ _ 0#8) (hl) rfl rfl ?_
  refine lx_move rfl rfl rfl ?_
  refine lx_call rfl rfl ent42 (hL) rfl rfl ?_
  refine lx_move rfl rfl rfl ?_
  refine lx_ext rfl rfl rfl rfl ?_
  refine lx_ext rfl rfl rfl rfl ?_
  refine lx_allocr 13 hGF zv40 rfl rfl ?_
  intro b13
  refine lx_storea 13 hGF rfl rfl rfl Tryz.sizeOf40 (by simp) (by simp) (one_u64 _) rfl ?_
  refine lx_assign rfl rfl rfl ?_
  refine lx_nil ?_
  refine x_seq ?_
  refine xs_plain (E := EE []) ?_
  refine lx_move rfl rfl rfl ?_
  refine lx_un rfl (fun _ => un_not _) rfl rfl ?_
  refine lx_move rfl rfl rfl ?_
  refine lx_fak 12 rfl Tryz.underlying40 rfl Tryz.sizeOf38 (by decide) rfl rfl rfl ?_
  refine lx_loado 13 _ rfl rfl Tryz.isAgg38 Tryz.sizeOf38 (by simp) (ld_m (by simp)) rfl rfl ?_
  refine lx_callB false rfl rfl ent44 (r5isZero _) (hz) rfl rfl ?_
  refine lx_move rfl rfl rfl ?_
  refine lx_skip rfl rfl rfl ?_
  refine lx_skip rfl rfl rfl ?_
  refine lx_skip rfl rfl rfl ?_
  refine lx_pick rfl rfl rfl rfl rfl ?_
  refine lx_pick rfl rfl rfl rfl rfl ?_
  refine lx_nil ?_
  refine x_false rfl ?_
  refine x_skip ?_
  refine x_seq ?_
  refine xs_plain (E := EE []) ?_
  refine lx_loada 13 rfl rfl Tryz.isAgg40 Tryz.sizeOf40 (by simp) rfl rfl ?_
  refine lx_callB false rfl rfl ent45 (r9inGroup _) (hg) rfl rfl ?_
  refine lx_un rfl (fun _ => un_not _) rfl rfl ?_
  refine lx_nil ?_
  refine x_true rfl ?_
  refine xs_plain (E := EE []) ?_
  refine lx_threeN three40 rfl rfl ?_
  refine lx_storea 4 hGF rfl rfl rfl Tryz.sizeOf40 (by simp) (by simp) (one_u64 _) rfl ?_
  refine lx_assign rfl rfl rfl ?_
  refine lx_nil ?_
  refine x_ret ?_
  repeat (first | refine kseq_ret ?_ | refine kblk_ret ?_)
  exact kret_ct 4 rfl rfl rfl rfl Tryz.isAgg40 Tryz.sizeOf40 (by simp) (fun w hw => ⟨rfl, hp_below hw⟩)
theorem r9dec2_ftt (e : Option Addr) (cap : Nat) (bs : List (BitVec 8)) (h48 : bs.length = 96) (hf : ¬ FG bs &&& 128#8 = 0#8) (h6 : FG bs &&& 64#8 = 0#8) (hp : BN (LO bs 48) 48 < PP) (hp2 : BN (LO bs 0) 48 < PP) (x y : W2) (hx : (zp (BN (LO bs 48) 48), zp (BN (LO bs 0) 48)) = x) (hl : (FG bs &&& 32#8 != 0#8) = false) (hL : Pure Tryz.prog Gt 42 [EV2 x, .bool false, .bool true] (.tuple #[EV6 (x, y, on2), .bool true])) (hz : decide (y = ze2) = true) (hg : decide ((RMJ (x, y, on2) ORB (8 * 32)).2.2 = ze2) = true) (w : World) (hw : Gt w) (hby : BytesAt w e bs) :
    Calls Tryz.prog 11 [.slice e bs.length cap, .bool true].toArray w (fun r w' => r = .returned (.tuple #[EV6 (x, y, on2), I 0]) ∧ Grow w w') := by
  have hGF : BOk Gt (pl w) := gt_low.plain hw
  refine calls_of_X (G := Gt) Tryz.func11 rfl rfl (Hp (pl w) []) (hp_refl (pl w) trivial rides_true) (good_hp hGF) ?_
  refine xs_plain (E := EE []) ?_
  refine lx_allocr 4 hGF zv40 rfl rfl ?_
  intro b4
  refine lx_assign rfl rfl rfl ?_
  refine lx_nil ?_
  refine xs_plain (E := EE []) ?_
  refine lx_assign rfl rfl rfl ?_
  refine lx_nil ?_
  refine x_seq ?_
  refine xs_plain (E := EE []) ?_
  refine lx_move rfl rfl rfl ?_
  refine lx_nil ?_
  refine x_true rfl ?_
  refine x_plain (E := EE []) ?_
  refine lx_assign rfl rfl rfl ?_
  refine lx_nil ?_
  refine x_seq ?_
  refine xs_plain (E := EE []) ?_
  refine lx_move rfl rfl rfl ?_
  refine lx_len rfl (fun _ => len_slice Tryz.underlying22 _ _ _ _) rfl rfl ?_
  refine lx_move rfl rfl rfl ?_
  refine lx_binB false rfl rfl (fun _ => rfl) (fun _ => bin_neq_i _ _ _) (bne_eq_false_iff_eq.2 (by omega)) rfl rfl ?_
  refine lx_nil ?_
  refine x_false rfl ?_
  refine x_skip ?_
  refine xs_plain (E := EE []) ?_
  refine lx_move rfl rfl rfl ?_
  obtain ⟨ad, rfl, _⟩ := hby 0 _ (gm U8 bs 0 0 (by omega))
  refine lx_isA 0 rfl rfl Tryz.underlying22 Tryz.sizeOf5 rfl (by omega) rfl rfl ?_
  refine lx_load rfl Tryz.isAgg5 (fun w' h => by obtain ⟨ad', e, hc⟩ := (hby.grow (hp_below h)) 0 _ (gm U8 bs 0 0 (by omega)); cases e; exact hc) rfl rfl ?_
  refine lx_bin (v := U8 (FG bs)) rfl rfl (fun _ => rfl) (fun _ => bin_and_u8 _ _ 224#8) rfl rfl ?_
  refine lx_assign rfl rfl rfl ?_
  refine lx_nil ?_
  refine xs_plain (E := EE []) ?_
  refine lx_move rfl rfl rfl ?_
  refine lx_append (xs := []) (ys := bs) 7 hGF rfl rfl Tryz.underlying22 Tryz.underlying22 ti5 (.inl ⟨rfl, rfl, rfl⟩) (fun w' h => hby.grow (hp_below h)) (by simp; omega) rfl rfl (fun h0 => absurd (congrArg List.length h0) (by show ¬ bs.length = 0; omega)) (fun b7 c7 k7 q1 q2 q3 => ?_)
  have q0 : bs.length ≤ c7.length := by rw [q1]; exact q2
  refine lx_assign rfl rfl rfl ?_
  refine lx_nil ?_
  refine xs_plain (E := EE []) ?_
  refine lx_move rfl rfl rfl ?_
  refine lx_move rfl rfl rfl ?_
  refine lx_isA 0 rfl rfl Tryz.underlying22 Tryz.sizeOf5 rfl (by show 0 < bs.length; omega) rfl rfl ?_
  refine lx_load (v := U8 (bs.getD 0 0)) rfl Tryz.isAgg5 (fun w' h => hp_cell (n := 7) rfl (tk_at (xs := bs) q3 0 (by omega)) w' h) rfl rfl ?_
  refine lx_bin (v := U8 (bs.getD 0 0 &&& 31#8)) rfl rfl (fun _ => rfl) (fun _ => bin_and_u8 _ _ 31#8) rfl rfl ?_
  refine lx_isA 0 rfl rfl Tryz.underlying22 Tryz.sizeOf5 rfl (by show 0 < bs.length; omega) rfl rfl ?_
  refine lx_store 7 hGF rfl rfl rfl Tryz.sizeOf5 rfl (by show 0 < c7.length; omega) rfl ?_
  refine lx_nil ?_
  refine x_seq ?_
  refine xs_plain (E := EE []) ?_
  refine lx_move rfl rfl rfl ?_
  refine lx_bin (v := U8 (FG bs &&& 128#8)) rfl rfl (fun _ => rfl) (fun _ => bin_and_u8 _ _ 128#8) rfl rfl ?_
  refine lx_binB false rfl rfl (fun _ => rfl) (fun _ => bin_eql_u8 _ _ 0#8) (beq_eq_false_iff_ne.2 hf) rfl rfl ?_
  refine lx_nil ?_
  refine x_false rfl ?_
  refine x_skip ?_
  refine x_seq ?_
  refine xs_plain (E := EE []) ?_
  refine lx_move rfl rfl rfl ?_
  refine lx_bin (v := U8 (FG bs &&& 64#8)) rfl rfl (fun _ => rfl) (fun _ => bin_and_u8 _ _ 64#8) rfl rfl ?_
  refine lx_binB false rfl rfl (fun _ => rfl) (fun _ => bin_neq_u8 _ _ 0#8) ((bne_eq_false_iff_eq).2 h6) rfl rfl ?_
  refine lx_nil ?_
  refine x_false rfl ?_
  refine x_skip ?_
  refine xs_plain (E := EE []) ?_
  refine lx_move rfl rfl rfl ?_
  refine lx_move rfl rfl rfl ?_
  refine lx_bin (v := I 48) rfl rfl (fun _ => rfl) (fun _ => bin_sub_i _ _ _ (by unfold inI; omega)) rfl rfl ?_
  refine lx_slsl (l := 48) (h' := bs.length) rfl Tryz.underlying22 Tryz.sizeOf5 rfl rfl ⟨by omega, q2⟩ rfl rfl ?_
  refine lx_callC rfl rfl ent39 (fun w' hC hG => rfrom_lo b7 k7 _ _ 48 bs c7 q3 (by omega) (by omega) q2 w' hG (hp_row (n := 7) rfl w' hC)) rfl rfl ?_
  refine lx_move rfl rfl rfl ?_
  refine lx_ext rfl rfl rfl rfl ?_
  refine lx_ext rfl rfl rfl rfl ?_
  refine lx_allocr 10 hGF zv34 rfl rfl ?_
  intro b10
  refine lx_storea 10 hGF rfl rfl rfl Tryz.sizeOf34 (by simp) (by simp) (one_u64 _) rfl ?_
  refine lx_assign rfl rfl rfl ?_
  refine lx_nil ?_
  refine xs_plain (E := EE []) ?_
  refine lx_buildz zv34 Tryz.underlying34 Tryz.sizeOf25 rfl rfl ?_
  refine lx_allocr 12 hGF zv34 rfl rfl ?_
  intro b12
  refine lx_storea 12 hGF rfl rfl rfl Tryz.sizeOf34 (by rw [List.length_map, List.length_replicate]) (by simp) (one_u64 _) rfl ?_
  refine lx_nil ?_
  refine x_seq ?_
  refine xs_plain (E := EE []) ?_
  refine lx_move rfl rfl rfl ?_
  refine lx_nil ?_
  refine x_true rfl ?_
  refine x_plain (E := EE []) ?_
  refine lx_move rfl rfl rfl ?_
  refine lx_slsl (l := 0) (h' := 48) rfl Tryz.underlying22 Tryz.sizeOf5 rfl rfl ⟨by omega, Nat.le_trans (show 48 ≤ bs.length by omega) q2⟩ rfl rfl ?_
  refine lx_callC rfl rfl ent39 (fun w' hC hG => rfrom_lo b7 k7 _ _ 0 bs c7 q3 (by omega) (by omega) q2 w' hG (hp_row (n := 7) rfl w' hC)) rfl rfl ?_
  refine lx_move rfl rfl rfl ?_
  refine lx_ext rfl rfl rfl rfl ?_
  refine lx_ext rfl rfl rfl rfl ?_
  refine lx_storea 12 hGF rfl rfl rfl Tryz.sizeOf34 (by simp) (by simp) (one_u64 _) rfl ?_
  refine lx_nil ?_
  refine x_seq ?_
  refine xs_drawn (E := EE []) mixed (by kernel_rfl) (by kernel_rfl) (by kernel_rfl) ?_
  refine lx_loada 10 rfl rfl Tryz.isAgg34 Tryz.sizeOf34 (by simp) rfl rfl ?_
  refine lx_call rfl rfl ent41 (rp_pure) rfl rfl ?_
  refine lx_callB true rfl rfl ent40 (rless_pure _ _ (by simp) (by simp)) (less_y (LO_len (l := 48) (by omega)) hp) rfl rfl ?_
  refine lx_un rfl (fun _ => un_not _) rfl rfl ?_
  refine lx_move rfl rfl rfl ?_
  refine lx_loada 12 rfl rfl Tryz.isAgg34 Tryz.sizeOf34 (by simp) rfl rfl ?_
  refine lx_call rfl rfl ent41 (rp_pure) rfl rfl ?_
  refine lx_callB true rfl rfl ent40 (rless_pure _ _ (by simp) (by simp)) (less_y (LO_len (l := 0) (by omega)) hp2) rfl rfl ?_
  refine lx_un rfl (fun _ => un_not _) rfl rfl ?_
  refine lx_pick rfl rfl rfl rfl rfl ?_
  refine lx_nil ?_
  refine x_false rfl ?_
  refine x_skip ?_
  refine xs_plain (E := EE []) ?_
  refine lx_loada 10 rfl rfl Tryz.isAgg34 Tryz.sizeOf34 (by simp) rfl rfl ?_
  refine lx_loada 12 rfl rfl Tryz.isAgg34 Tryz.sizeOf34 (by simp) rfl rfl ?_
  refine lx_call rfl rfl ent43 (num_2 (LO_len (l := 48) (by omega)) hp (LO_len (l := 0) (by omega)) hp2 hx) rfl rfl ?_
  refine lx_move rfl rfl rfl ?_
  refine lx_bin (v := U8 (FG bs &&& 32#8)) rfl rfl (fun _ => rfl) (fun _ => bin_and_u8 _ _ 32#8) rfl rfl ?_
  refine lx_binB false rfl rfl (fun _ => rfl) (fun _ => bin_neq_u8 _ _ 0#8) (hl) rfl rfl ?_
  refine lx_move rfl rfl rfl ?_
  refine lx_call rfl rfl ent42 (hL) rfl rfl ?_
  refine lx_move rfl rfl rfl ?_
  refine lx_ext rfl rfl rfl rfl ?_
  refine lx_ext rfl rfl rfl rfl ?_
  refine lx_allocr 13 hGF zv40 rfl rfl ?_
  intro b13
  refine lx_storea 13 hGF rfl rfl rfl Tryz.sizeOf40 (by simp) (by simp) (one_u64 _) rfl ?_
  refine lx_assign rfl rfl rfl ?_
  refine lx_nil ?_
  refine x_seq ?_
  refine xs_plain (E := EE []) ?_
  refine lx_move rfl rfl rfl ?_
  refine lx_un rfl (fun _ => un_not _) rfl rfl ?_
  refine lx_move rfl rfl rfl ?_
  refine lx_fak 12 rfl Tryz.underlying40 rfl Tryz.sizeOf38 (by decide) rfl rfl rfl ?_
  refine lx_loado 13 _ rfl rfl Tryz.isAgg38 Tryz.sizeOf38 (by simp) (ld_m (by simp)) rfl rfl ?_
  refine lx_callB true rfl rfl ent44 (r5isZero _) (hz) rfl rfl ?_
  refine lx_move rfl rfl rfl ?_
  refine lx_move rfl rfl rfl ?_
  refine lx_bin (v := U8 (FG bs &&& 32#8)) rfl rfl (fun _ => rfl) (fun _ => bin_and_u8 _ _ 32#8) rfl rfl ?_
  refine lx_binB false rfl rfl (fun _ => rfl) (fun _ => bin_neq_u8 _ _ 0#8) (hl) rfl rfl ?_
  refine lx_pick rfl rfl rfl rfl rfl ?_
  refine lx_pick rfl rfl rfl rfl rfl ?_
  refine lx_nil ?_
  refine x_false rfl ?_
  refine x_skip ?_
  refine x_seq ?_
  refine xs_plain (E := EE []) ?_
  refine lx_loada 13 rfl rfl Tryz.isAgg40 Tryz.sizeOf40 (by simp) rfl rfl ?_
  refine lx_callB true rfl rfl ent45 (r9inGroup _) (hg) rfl rfl ?_
  refine lx_un rfl (fun _ => un_not _) rfl rfl ?_
  refine lx_nil ?_
  refine x_false rfl ?_
  refine x_skip ?_
  refine xs_plain (E := EE []) ?_
  refine lx_loada 13 rfl rfl Tryz.isAgg40 Tryz.sizeOf40 (by simp) rfl rfl ?_
  refine lx_storea 4 hGF rfl rfl rfl Tryz.sizeOf40 (by simp) (by simp) (one_u64 _) rfl ?_
  refine lx_assign rfl rfl rfl ?_
  refine lx_nil ?_
  refine x_ret ?_
  repeat (first | refine kseq_ret ?_ | refine kblk_ret ?_)
  exact kret_ct 4 rfl rfl rfl rfl Tryz.isAgg40 Tryz.sizeOf40 (by simp) (fun w hw => ⟨rfl, hp_below hw⟩)
theorem r9dec2_ftf (e : Option Addr) (cap : Nat) (bs : List (BitVec 8)) (h48 : bs.length = 96) (hf : ¬ FG bs &&& 128#8 = 0#8) (h6 : FG bs &&& 64#8 = 0#8) (hp : BN (LO bs 48) 48 < PP) (hp2 : BN (LO bs 0) 48 < PP) (x y : W2) (hx : (zp (BN (LO bs 48) 48), zp (BN (LO bs 0) 48)) = x) (hl : (FG bs &&& 32#8 != 0#8) = false) (hL : Pure Tryz.prog Gt 42 [EV2 x, .bool false, .bool true] (.tuple #[EV6 (x, y, on2), .bool true])) (hz : decide (y = ze2) = true) (hg : decide ((RMJ (x, y, on2) ORB (8 * 32)).2.2 = ze2) = false) (w : World) (hw : Gt w) (hby : BytesAt w e bs) :
    Calls Tryz.prog 11 [.slice e bs.length cap, .bool true].toArray w (fun r w' => r = .returned (.tuple #[EV6 (ze2, ze2, ze2), I 104]) ∧ Grow w w') := by
  have hGF : BOk Gt (pl w) := gt_low.plain hw
  refine calls_of_X (G := Gt) Tryz.func11 rfl rfl (Hp (pl w) []) (hp_refl (pl w) trivial rides_true) (good_hp hGF) ?_
  refine xs_plain (E := EE []) ?_
  refine lx_allocr 4 hGF zv40 rfl rfl ?_
  intro b4
  refine lx_assign rfl rfl rfl ?_
  refine lx_nil ?_
  refine xs_plain (E := EE []) ?_
  refine lx_assign rfl rfl rfl ?_
  refine lx_nil ?_
  refine x_seq ?_
  refine xs_plain (E := EE []) ?_
  refine lx_move rfl rfl rfl ?_
  refine lx_nil ?_
  refine x_true rfl ?_
  refine x_plain (E := EE []) ?_
  refine lx_assign rfl rfl rfl ?_
  refine lx_nil ?_
  refine x_seq ?_
  refine xs_plain (E := EE []) ?_
  refine lx_move rfl rfl rfl ?_
  refine lx_len rfl (fun _ => len_slice Tryz.underlying22 _ _ _ _) rfl rfl ?_
  refine lx_move rfl rfl rfl ?_
  refine lx_binB false rfl rfl (fun _ => rfl) (fun _ => bin_neq_i _ _ _) (bne_eq_false_iff_eq.2 (by omega)) rfl rfl ?_
  refine lx_nil ?_
  refine x_false rfl ?_
  refine x_skip ?_
  refine xs_plain (E := EE []) ?_
  refine lx_move rfl rfl rfl ?_
  obtain ⟨ad, rfl, _⟩ := hby 0 _ (gm U8 bs 0 0 (by omega))
  refine lx_isA 0 rfl rfl Tryz.underlying22 Tryz.sizeOf5 rfl (by omega) rfl rfl ?_
  refine lx_load rfl Tryz.isAgg5 (fun w' h => by obtain ⟨ad', e, hc⟩ := (hby.grow (hp_below h)) 0 _ (gm U8 bs 0 0 (by omega)); cases e; exact hc) rfl rfl ?_
  refine lx_bin (v := U8 (FG bs)) rfl rfl (fun _ => rfl) (fun _ => bin_and_u8 _ _ 224#8) rfl rfl ?_
  refine lx_assign rfl rfl rfl ?_
  refine lx_nil ?_
  refine xs_plain (E := EE []) ?_
  refine lx_move rfl rfl rfl ?_
  refine lx_append (xs := []) (ys := bs) 7 hGF rfl rfl Tryz.underlying22 Tryz.underlying22 ti5 (.inl ⟨rfl, rfl, rfl⟩) (fun w' h => hby.grow (hp_below h)) (by simp; omega) rfl rfl (fun h0 => absurd (congrArg List.length h0) (by show ¬ bs.length = 0; omega)) (fun b7 c7 k7 q1 q2 q3 => ?_)
  have q0 : bs.length ≤ c7.length := by rw [q1]; exact q2
  refine lx_assign rfl rfl rfl ?_
  refine lx_nil ?_
  refine xs_plain (E := EE []) ?_
  refine lx_move rfl rfl rfl ?_
  refine lx_move rfl rfl rfl ?_
  refine lx_isA 0 rfl rfl Tryz.underlying22 Tryz.sizeOf5 rfl (by show 0 < bs.length; omega) rfl rfl ?_
  refine lx_load (v := U8 (bs.getD 0 0)) rfl Tryz.isAgg5 (fun w' h => hp_cell (n := 7) rfl (tk_at (xs := bs) q3 0 (by omega)) w' h) rfl rfl ?_
  refine lx_bin (v := U8 (bs.getD 0 0 &&& 31#8)) rfl rfl (fun _ => rfl) (fun _ => bin_and_u8 _ _ 31#8) rfl rfl ?_
  refine lx_isA 0 rfl rfl Tryz.underlying22 Tryz.sizeOf5 rfl (by show 0 < bs.length; omega) rfl rfl ?_
  refine lx_store 7 hGF rfl rfl rfl Tryz.sizeOf5 rfl (by show 0 < c7.length; omega) rfl ?_
  refine lx_nil ?_
  refine x_seq ?_
  refine xs_plain (E := EE []) ?_
  refine lx_move rfl rfl rfl ?_
  refine lx_bin (v := U8 (FG bs &&& 128#8)) rfl rfl (fun _ => rfl) (fun _ => bin_and_u8 _ _ 128#8) rfl rfl ?_
  refine lx_binB false rfl rfl (fun _ => rfl) (fun _ => bin_eql_u8 _ _ 0#8) (beq_eq_false_iff_ne.2 hf) rfl rfl ?_
  refine lx_nil ?_
  refine x_false rfl ?_
  refine x_skip ?_
  refine x_seq ?_
  refine xs_plain (E := EE []) ?_
  refine lx_move rfl rfl rfl ?_
  refine lx_bin (v := U8 (FG bs &&& 64#8)) rfl rfl (fun _ => rfl) (fun _ => bin_and_u8 _ _ 64#8) rfl rfl ?_
  refine lx_binB false rfl rfl (fun _ => rfl) (fun _ => bin_neq_u8 _ _ 0#8) ((bne_eq_false_iff_eq).2 h6) rfl rfl ?_
  refine lx_nil ?_
  refine x_false rfl ?_
  refine x_skip ?_
  refine xs_plain (E := EE []) ?_
  refine lx_move rfl rfl rfl ?_
  refine lx_move rfl rfl rfl ?_
  refine lx_bin (v := I 48) rfl rfl (fun _ => rfl) (fun _ => bin_sub_i _ _ _ (by unfold inI; omega)) rfl rfl ?_
  refine lx_slsl (l := 48) (h' := bs.length) rfl Tryz.underlying22 Tryz.sizeOf5 rfl rfl ⟨by omega, q2⟩ rfl rfl ?_
  refine lx_callC rfl rfl ent39 (fun w' hC hG => rfrom_lo b7 k7 _ _ 48 bs c7 q3 (by omega) (by omega) q2 w' hG (hp_row (n := 7) rfl w' hC)) rfl rfl ?_
  refine lx_move rfl rfl rfl ?_
  refine lx_ext rfl rfl rfl rfl ?_
  refine lx_ext rfl rfl rfl rfl ?_
  refine lx_allocr 10 hGF zv34 rfl rfl ?_
  intro b10
  refine lx_storea 10 hGF rfl rfl rfl Tryz.sizeOf34 (by simp) (by simp) (one_u64 _) rfl ?_
  refine lx_assign rfl rfl rfl ?_
  refine lx_nil ?_
  refine xs_plain (E := EE []) ?_
  refine lx_buildz zv34 Tryz.underlying34 Tryz.sizeOf25 rfl rfl ?_
  refine lx_allocr 12 hGF zv34 rfl rfl ?_
  intro b12
  refine lx_storea 12 hGF rfl rfl rfl Tryz.sizeOf34 (by rw [List.length_map, List.length_replicate]) (by simp) (one_u64 _) rfl ?_
  refine lx_nil ?_
  refine x_seq ?_
  refine xs_plain (E := EE []) ?_
  refine lx_move rfl rfl rfl ?_
  refine lx_nil ?_
  refine x_true rfl ?_
  refine x_plain (E := EE []) ?_
  refine lx_move rfl rfl rfl ?_
  refine lx_slsl (l := 0) (h' := 48) rfl Tryz.underlying22 Tryz.sizeOf5 rfl rfl ⟨by omega, Nat.le_trans (show 48 ≤ bs.length by omega) q2⟩ rfl rfl ?_
  refine lx_callC rfl rfl ent39 (fun w' hC hG => rfrom_lo b7 k7 _ _ 0 bs c7 q3 (by omega) (by omega) q2 w' hG (hp_row (n := 7) rfl w' hC)) rfl rfl ?_
  refine lx_move rfl rfl rfl ?_
  refine lx_ext rfl rfl rfl rfl ?_
  refine lx_ext rfl rfl rfl rfl ?_
  refine lx_storea 12 hGF rfl rfl rfl Tryz.sizeOf34 (by simp) (by simp) (one_u64 _) rfl ?_
  refine lx_nil ?_
  refine x_seq ?_
  refine xs_drawn (E := EE []) mixed (by kernel_rfl) (by kernel_rfl) (by kernel_rfl) ?_
  refine lx_loada 10 rfl rfl Tryz.isAgg34 Tryz.sizeOf34 (by simp) rfl rfl ?_
  refine lx_call rfl rfl ent41 (rp_pure) rfl rfl ?_
  refine lx_callB true rfl rfl ent40 (rless_pure _ _ (by simp) (by simp)) (less_y (LO_len (l := 48) (by omega)) hp) rfl rfl ?_
  refine lx_un rfl (fun _ => un_not _) rfl rfl ?_
  refine lx_move rfl rfl rfl ?_
  refine lx_loada 12 rfl rfl Tryz.isAgg34 Tryz.sizeOf34 (by simp) rfl rfl ?_
  refine lx_call rfl rfl ent41 (rp_pure) rfl rfl ?_
  refine lx_callB true rfl rfl ent40 (rless_pure _ _ (by simp) (by simp)) (less_y (LO_len (l := 0) (by omega)) hp2) rfl rfl ?_
  refine lx_un rfl (fun _ => un_not _) rfl rfl ?_
  refine lx_pick rfl rfl rfl rfl rfl ?_
  refine lx_nil ?_
  refine x_false rfl ?_
  refine x_skip ?_
  refine xs_plain (E := EE []) ?_
  refine lx_loada 10 rfl rfl Tryz.isAgg34 Tryz.sizeOf34 (by simp) rfl rfl ?_
  refine lx_loada 12 rfl rfl Tryz.isAgg34 Tryz.sizeOf34 (by simp) rfl rfl ?_
  refine lx_call rfl rfl ent43 (num_2 (LO_len (l := 48) (by omega)) hp (LO_len (l := 0) (by omega)) hp2 hx) rfl rfl ?_
  refine lx_move rfl rfl rfl ?_
  refine lx_bin (v := U8 (FG bs &&& 32#8)) rfl rfl (fun _ => rfl) (fun _ => bin_and_u8 _ _ 32#8) rfl rfl ?_
  refine lx_binB false rfl rfl (fun _ => rfl) (fun _ => bin_neq_u8 _ _ 0#8) (hl) rfl rfl ?_
  refine lx_move rfl rfl rfl ?_
  refine lx_call rfl rfl ent42 (hL) rfl rfl ?_
  refine lx_move rfl rfl rfl ?_
  refine lx_ext rfl rfl rfl rfl ?_
  refine lx_ext rfl rfl rfl rfl ?_
  refine lx_allocr 13 hGF zv40 rfl rfl ?_
  intro b13
  refine lx_storea 13 hGF rfl rfl rfl Tryz.sizeOf40 (by simp) (by simp) (one_u64 _) rfl ?_
  refine lx_assign rfl rfl rfl ?_
  refine lx_nil ?_
  refine x_seq ?_
  refine xs_plain (E := EE []) ?_
  refine lx_move rfl rfl rfl ?_
  refine lx_un rfl (fun _ => un_not _) rfl rfl ?_
  refine lx_move rfl rfl rfl ?_
  refine lx_fak 12 rfl Tryz.underlying40 rfl Tryz.sizeOf38 (by decide) rfl rfl rfl ?_
  refine lx_loado 13 _ rfl rfl Tryz.isAgg38 Tryz.sizeOf38 (by simp) (ld_m (by simp)) rfl rfl ?_
  refine lx_callB true rfl rfl ent44 (r5isZero _) (hz) rfl rfl ?_
  refine lx_move rfl rfl rfl ?_
  refine lx_move rfl rfl rfl ?_
  refine lx_bin (v := U8 (FG bs &&& 32#8)) rfl rfl (fun _ => rfl) (fun _ => bin_and_u8 _ _ 32#8) rfl rfl ?_
  refine lx_binB false rfl rfl (fun _ => rfl) (fun _ => bin_neq_u8 _ _ 0#8) (hl) rfl rfl ?_
  refine lx_pick rfl rfl rfl rfl rfl ?_
  refine lx_pick rfl rfl rfl rfl rfl ?_
  refine lx_nil ?_
  refine x_false rfl ?_
  refine x_skip ?_
  refine x_seq ?_
  refine xs_plain (E := EE []) ?_
  refine lx_loada 13 rfl rfl Tryz.isAgg40 Tryz.sizeOf40 (by simp) rfl rfl ?_
  refine lx_callB false rfl rfl ent45 (r9inGroup _) (hg) rfl rfl ?_
  refine lx_un rfl (fun _ => un_not _) rfl rfl ?_
  refine lx_nil ?_
  refine x_true rfl ?_
  refine xs_plain (E := EE []) ?_
  refine lx_threeN three40 rfl rfl ?_
  refine lx_storea 4 hGF rfl rfl rfl Tryz.sizeOf40 (by simp) (by simp) (one_u64 _) rfl ?_
  refine lx_assign rfl rfl rfl ?_
  refine lx_nil ?_
  refine x_ret ?_
  repeat (first | refine kseq_ret ?_ | refine kblk_ret ?_)
  exact kret_ct 4 rfl rfl rfl rfl Tryz.isAgg40 Tryz.sizeOf40 (by simp) (fun w hw => ⟨rfl, hp_below hw⟩)
theorem r9dec2_fft (e : Option Addr) (cap : Nat) (bs : List (BitVec 8)) (h48 : bs.length = 96) (hf : ¬ FG bs &&& 128#8 = 0#8) (h6 : FG bs &&& 64#8 = 0#8) (hp : BN (LO bs 48) 48 < PP) (hp2 : BN (LO bs 0) 48 < PP) (x y : W2) (hx : (zp (BN (LO bs 48) 48), zp (BN (LO bs 0) 48)) = x) (hl : (FG bs &&& 32#8 != 0#8) = false) (hL : Pure Tryz.prog Gt 42 [EV2 x, .bool false, .bool true] (.tuple #[EV6 (x, y, on2), .bool true])) (hz : decide (y = ze2) = false) (hg : decide ((RMJ (x, y, on2) ORB (8 * 32)).2.2 = ze2) = true) (w : World) (hw : Gt w) (hby : BytesAt w e bs) :
    Calls Tryz.prog 11 [.slice e bs.length cap, .bool true].toArray w (fun r w' => r = .returned (.tuple #[EV6 (x, y, on2), I 0]) ∧ Grow w w') := by
  have hGF : BOk Gt (pl w) := gt_low.plain hw
  refine calls_of_X (G := Gt) Tryz.func11 rfl rfl (Hp (pl w) []) (hp_refl (pl w) trivial rides_true) (good_hp hGF) ?_
  refine xs_plain (E := EE []) ?_
  refine lx_allocr 4 hGF zv40 rfl rfl ?_
  intro b4
  refine lx_assign rfl rfl rfl ?_
  refine lx_nil ?_
  refine xs_plain (E := EE []) ?_
  refine lx_assign rfl rfl rfl ?_
  refine lx_nil ?_
  refine x_seq ?_
  refine xs_plain (E := EE []) ?_
  refine lx_move rfl rfl rfl ?_
  refine lx_nil ?_
  refine x_true rfl ?_
  refine x_plain (E := EE []) ?_
  refine lx_assign rfl rfl rfl ?_
  refine lx_nil ?_
  refine x_seq ?_
  refine xs_plain (E := EE []) ?_
  refine lx_move rfl rfl rfl ?_
  refine lx_len rfl (fun _ => len_slice Tryz.underlying22 _ _ _ _) rfl rfl ?_
  refine lx_move rfl rfl rfl ?_
  refine lx_binB false rfl rfl (fun _ => rfl) (fun _ => bin_neq_i _ _ _) (bne_eq_false_iff_eq.2 (by omega)) rfl rfl ?_
  refine lx_nil ?_
  refine x_false rfl ?_
  refine x_skip ?_
  refine xs_plain (E := EE []) ?_
  refine lx_move rfl rfl rfl ?_
  obtain ⟨ad, rfl, _⟩ := hby 0 _ (gm U8 bs 0 0 (by omega))
  refine lx_isA 0 rfl rfl Tryz.underlying22 Tryz.sizeOf5 rfl (by omega) rfl rfl ?_
  refine lx_load rfl Tryz.isAgg5 (fun w' h => by obtain ⟨ad', e, hc⟩ := (hby.grow (hp_below h)) 0 _ (gm U8 bs 0 0 (by omega)); cases e; exact hc) rfl rfl ?_
  refine lx_bin (v := U8 (FG bs)) rfl rfl (fun _ => rfl) (fun _ => bin_and_u8 _ _ 224#8) rfl rfl ?_
  refine lx_assign rfl rfl rfl ?_
  refine lx_nil ?_
  refine xs_plain (E := EE []) ?_
  refine lx_move rfl rfl rfl ?_
  refine lx_append (xs := []) (ys := bs) 7 hGF rfl rfl Tryz.underlying22 Tryz.underlying22 ti5 (.inl ⟨rfl, rfl, rfl⟩) (fun w' h => hby.grow (hp_below h)) (by simp; omega) rfl rfl (fun h0 => absurd (congrArg List.length h0) (by show ¬ bs.length = 0; omega)) (fun b7 c7 k7 q1 q2 q3 => ?_)
  have q0 : bs.length ≤ c7.length := by rw [q1]; exact q2
  refine lx_assign rfl rfl rfl ?_
  refine lx_nil ?_
  refine xs_plain (E := EE []) ?_
  refine lx_move rfl rfl rfl ?_
  refine lx_move rfl rfl rfl ?_
  refine lx_isA 0 rfl rfl Tryz.underlying22 Tryz.sizeOf5 rfl (by show 0 < bs.length; omega) rfl rfl ?_
  refine lx_load (v := U8 (bs.getD 0 0)) rfl Tryz.isAgg5 (fun w' h => hp_cell (n := 7) rfl (tk_at (xs := bs) q3 0 (by omega)) w' h) rfl rfl ?_
  refine lx_bin (v := U8 (bs.getD 0 0 &&& 31#8)) rfl rfl (fun _ => rfl) (fun _ => bin_and_u8 _ _ 31#8) rfl rfl ?_
  refine lx_isA 0 rfl rfl Tryz.underlying22 Tryz.sizeOf5 rfl (by show 0 < bs.length; omega) rfl rfl ?_
  refine lx_store 7 hGF rfl rfl rfl Tryz.sizeOf5 rfl (by show 0 < c7.length; omega) rfl ?_
  refine lx_nil ?_
  refine x_seq ?_
  refine xs_plain (E := EE []) ?_
  refine lx_move rfl rfl rfl ?_
  refine lx_bin (v := U8 (FG bs &&& 128#8)) rfl rfl (fun _ => rfl) (fun _ => bin_and_u8 _ _ 128#8) rfl rfl ?_
  refine lx_binB false rfl rfl (fun _ => rfl) (fun _ => bin_eql_u8 _ _ 0#8) (beq_eq_false_iff_ne.2 hf) rfl rfl ?_
  refine lx_nil ?_
  refine x_false rfl ?_
  refine x_skip ?_
  refine x_seq ?_
  refine xs_plain (E := EE []) ?_
  refine lx_move rfl rfl rfl ?_
  refine lx_bin (v := U8 (FG bs &&& 64#8)) rfl rfl (fun _ => rfl) (fun _ => bin_and_u8 _ _ 64#8) rfl rfl ?_
  refine lx_binB false rfl rfl (fun _ => rfl) (fun _ => bin_neq_u8 _ _ 0#8) ((bne_eq_false_iff_eq).2 h6) rfl rfl ?_
  refine lx_nil ?_
  refine x_false rfl ?_
  refine x_skip ?_
  refine xs_plain (E := EE []) ?_
  refine lx_move rfl rfl rfl ?_
  refine lx_move rfl rfl rfl ?_
  refine lx_bin (v := I 48) rfl rfl (fun _ => rfl) (fun _ => bin_sub_i _ _ _ (by unfold inI; omega)) rfl rfl ?_
  refine lx_slsl (l := 48) (h' := bs.length) rfl Tryz.underlying22 Tryz.sizeOf5 rfl rfl ⟨by omega, q2⟩ rfl rfl ?_
  refine lx_callC rfl rfl ent39 (fun w' hC hG => rfrom_lo b7 k7 _ _ 48 bs c7 q3 (by omega) (by omega) q2 w' hG (hp_row (n := 7) rfl w' hC)) rfl rfl ?_
  refine lx_move rfl rfl rfl ?_
  refine lx_ext rfl rfl rfl rfl ?_
  refine lx_ext rfl rfl rfl rfl ?_
  refine lx_allocr 10 hGF zv34 rfl rfl ?_
  intro b10
  refine lx_storea 10 hGF rfl rfl rfl Tryz.sizeOf34 (by simp) (by simp) (one_u64 _) rfl ?_
  refine lx_assign rfl rfl rfl ?_
  refine lx_nil ?_
  refine xs_plain (E := EE []) ?_
  refine lx_buildz zv34 Tryz.underlying34 Tryz.sizeOf25 rfl rfl ?_
  refine lx_allocr 12 hGF zv34 rfl rfl ?_
  intro b12
  refine lx_storea 12 hGF rfl rfl rfl Tryz.sizeOf34 (by rw [List.length_map, List.length_replicate]) (by simp) (one_u64 _) rfl ?_
  refine lx_nil ?_
  refine x_seq ?_
  refine xs_plain (E := EE []) ?_
  refine lx_move rfl rfl rfl ?_
  refine lx_nil ?_
  refine x_true rfl ?_
  refine x_plain (E := EE []) ?_
  refine lx_move rfl rfl rfl ?_
  refine lx_slsl (l := 0) (h' := 48) rfl Tryz.underlying22 Tryz.sizeOf5 rfl rfl ⟨by omega, Nat.le_trans (show 48 ≤ bs.length by omega) q2⟩ rfl rfl ?_
  refine lx_callC rfl rfl ent39 (fun w' hC hG => rfrom_lo b7 k7 _ _ 0 bs c7 q3 (by omega) (by omega) q2 w' hG (hp_row (n := 7) rfl w' hC)) rfl rfl ?_
  refine lx_move rfl rfl rfl ?_
  refine lx_ext rfl rfl rfl rfl ?_
  refine lx_ext rfl rfl rfl rfl ?_
  refine lx_storea 12 hGF rfl rfl rfl Tryz.sizeOf34 (by simp) (by simp) (one_u64 _) rfl ?_
  refine lx_nil ?_
  refine x_seq ?_
  refine xs_drawn (E := EE []) mixed (by kernel_rfl) (by kernel_rfl) (by kernel_rfl) ?_
  refine lx_loada 10 rfl rfl Tryz.isAgg34 Tryz.sizeOf34 (by simp) rfl rfl ?_
  refine lx_call rfl rfl ent41 (rp_pure) rfl rfl ?_
  refine lx_callB true rfl rfl ent40 (rless_pure _ _ (by simp) (by simp)) (less_y (LO_len (l := 48) (by omega)) hp) rfl rfl ?_
  refine lx_un rfl (fun _ => un_not _) rfl rfl ?_
  refine lx_move rfl rfl rfl ?_
  refine lx_loada 12 rfl rfl Tryz.isAgg34 Tryz.sizeOf34 (by simp) rfl rfl ?_
  refine lx_call rfl rfl ent41 (rp_pure) rfl rfl ?_
  refine lx_callB true rfl rfl ent40 (rless_pure _ _ (by simp) (by simp)) (less_y (LO_len (l := 0) (by omega)) hp2) rfl rfl ?_
  refine lx_un rfl (fun _ => un_not _) rfl rfl ?_
  refine lx_pick rfl rfl rfl rfl rfl ?_
  refine lx_nil ?_
  refine x_false rfl ?_
  refine x_skip ?_
  refine xs_plain (E := EE []) ?_
  refine lx_loada 10 rfl rfl Tryz.isAgg34 Tryz.sizeOf34 (by simp) rfl rfl ?_
  refine lx_loada 12 rfl rfl Tryz.isAgg34 Tryz.sizeOf34 (by simp) rfl rfl ?_
  refine lx_call rfl rfl ent43 (num_2 (LO_len (l := 48) (by omega)) hp (LO_len (l := 0) (by omega)) hp2 hx) rfl rfl ?_
  refine lx_move rfl rfl rfl ?_
  refine lx_bin (v := U8 (FG bs &&& 32#8)) rfl rfl (fun _ => rfl) (fun _ => bin_and_u8 _ _ 32#8) rfl rfl ?_
  refine lx_binB false rfl rfl (fun _ => rfl) (fun _ => bin_neq_u8 _ _ 0#8) (hl) rfl rfl ?_
  refine lx_move rfl rfl rfl ?_
  refine lx_call rfl rfl ent42 (hL) rfl rfl ?_
  refine lx_move rfl rfl rfl ?_
  refine lx_ext rfl rfl rfl rfl ?_
  refine lx_ext rfl rfl rfl rfl ?_
  refine lx_allocr 13 hGF zv40 rfl rfl ?_
  intro b13
  refine lx_storea 13 hGF rfl rfl rfl Tryz.sizeOf40 (by simp) (by simp) (one_u64 _) rfl ?_
  refine lx_assign rfl rfl rfl ?_
  refine lx_nil ?_
  refine x_seq ?_
  refine xs_plain (E := EE []) ?_
  refine lx_move rfl rfl rfl ?_
  refine lx_un rfl (fun _ => un_not _) rfl rfl ?_
  refine lx_move rfl rfl rfl ?_
  refine lx_fak 12 rfl Tryz.underlying40 rfl Tryz.sizeOf38 (by decide) rfl rfl rfl ?_
  refine lx_loado 13 _ rfl rfl Tryz.isAgg38 Tryz.sizeOf38 (by simp) (ld_m (by simp)) rfl rfl ?_
  refine lx_callB false rfl rfl ent44 (r5isZero _) (hz) rfl rfl ?_
  refine lx_move rfl rfl rfl ?_
  refine lx_skip rfl rfl rfl ?_
  refine lx_skip rfl rfl rfl ?_
  refine lx_skip rfl rfl rfl ?_
  refine lx_pick rfl rfl rfl rfl rfl ?_
  refine lx_pick rfl rfl rfl rfl rfl ?_
  refine lx_nil ?_
  refine x_false rfl ?_
  refine x_skip ?_
  refine x_seq ?_
  refine xs_plain (E := EE []) ?_
  refine lx_loada 13 rfl rfl Tryz.isAgg40 Tryz.sizeOf40 (by simp) rfl rfl ?_
  refine lx_callB true rfl rfl ent45 (r9inGroup _) (hg) rfl rfl ?_
  refine lx_un rfl (fun _ => un_not _) rfl rfl ?_
  refine lx_nil ?_
  refine x_false rfl ?_
  refine x_skip ?_
  refine xs_plain (E := EE []) ?_
  refine lx_loada 13 rfl rfl Tryz.isAgg40 Tryz.sizeOf40 (by simp) rfl rfl ?_
  refine lx_storea 4 hGF rfl rfl rfl Tryz.sizeOf40 (by simp) (by simp) (one_u64 _) rfl ?_
  refine lx_assign rfl rfl rfl ?_
  refine lx_nil ?_
  refine x_ret ?_
  repeat (first | refine kseq_ret ?_ | refine kblk_ret ?_)
  exact kret_ct 4 rfl rfl rfl rfl Tryz.isAgg40 Tryz.sizeOf40 (by simp) (fun w hw => ⟨rfl, hp_below hw⟩)
theorem r9dec2_fff (e : Option Addr) (cap : Nat) (bs : List (BitVec 8)) (h48 : bs.length = 96) (hf : ¬ FG bs &&& 128#8 = 0#8) (h6 : FG bs &&& 64#8 = 0#8) (hp : BN (LO bs 48) 48 < PP) (hp2 : BN (LO bs 0) 48 < PP) (x y : W2) (hx : (zp (BN (LO bs 48) 48), zp (BN (LO bs 0) 48)) = x) (hl : (FG bs &&& 32#8 != 0#8) = false) (hL : Pure Tryz.prog Gt 42 [EV2 x, .bool false, .bool true] (.tuple #[EV6 (x, y, on2), .bool true])) (hz : decide (y = ze2) = false) (hg : decide ((RMJ (x, y, on2) ORB (8 * 32)).2.2 = ze2) = false) (w : World) (hw : Gt w) (hby : BytesAt w e bs) :
    Calls Tryz.prog 11 [.slice e bs.length cap, .bool true].toArray w (fun r w' => r = .returned (.tuple #[EV6 (ze2, ze2, ze2), I 104]) ∧ Grow w w') := by
  have hGF : BOk Gt (pl w) := gt_low.plain hw
  refine calls_of_X (G := Gt) Tryz.func11 rfl rfl (Hp (pl w) []) (hp_refl (pl w) trivial rides_true) (good_hp hGF) ?_
  refine xs_plain (E := EE []) ?_
  refine lx_allocr 4 hGF zv40 rfl rfl ?_
  intro b4
  refine lx_assign rfl rfl rfl ?_
  refine lx_nil ?_
  refine xs_plain (E := EE []) ?_
  refine lx_assign rfl rfl rfl ?_
  refine lx_nil ?_
  refine x_seq ?_
  refine xs_plain (E := EE []) ?_
  refine lx_move rfl rfl rfl ?_
  refine lx_nil ?_
  refine x_true rfl ?_
  refine x_plain (E := EE []) ?_
  refine lx_assign rfl rfl rfl ?_
  refine lx_nil ?_
  refine x_seq ?_
  refine xs_plain (E := EE []) ?_
  refine lx_move rfl rfl rfl ?_
  refine lx_len rfl (fun _ => len_slice Tryz.underlying22 _ _ _ _) rfl rfl ?_
  refine lx_move rfl rfl rfl ?_
  refine lx_binB false rfl rfl (fun _ => rfl) (fun _ => bin_neq_i _ _ _) (bne_eq_false_iff_eq.2 (by omega)) rfl rfl ?_
  refine lx_nil ?_
  refine x_false rfl ?_
  refine x_skip ?_
  refine xs_plain (E := EE []) ?_
  refine lx_move rfl rfl rfl ?_
  obtain ⟨ad, rfl, _⟩ := hby 0 _ (gm U8 bs 0 0 (by omega))
  refine lx_isA 0 rfl rfl Tryz.underlying22 Tryz.sizeOf5 rfl (by omega) rfl rfl ?_
  refine lx_load rfl Tryz.isAgg5 (fun w' h => by obtain ⟨ad', e, hc⟩ := (hby.grow (hp_below h)) 0 _ (gm U8 bs 0 0 (by omega)); cases e; exact hc) rfl rfl ?_
  refine lx_bin (v := U8 (FG bs)) rfl rfl (fun _ => rfl) (fun _ => bin_and_u8 _ _ 224#8) rfl rfl ?_
  refine lx_assign rfl rfl rfl ?_
  refine lx_nil ?_
  refine xs_plain (E := EE []) ?_
  refine lx_move rfl rfl rfl ?_
  refine lx_append (xs := []) (ys := bs) 7 hGF rfl rfl Tryz.underlying22 Tryz.underlying22 ti5 (.inl ⟨rfl, rfl, rfl⟩) (fun w' h => hby.grow (hp_below h)) (by simp; omega) rfl rfl (fun h0 => absurd (congrArg List.length h0) (by show ¬ bs.length = 0; omega)) (fun b7 c7 k7 q1 q2 q3 => ?_)
  have q0 : bs.length ≤ c7.length := by rw [q1]; exact q2
  refine lx_assign rfl rfl rfl ?_
  refine lx_nil ?_
  refine xs_plain (E := EE []) ?_
  refine lx_move rfl rfl rfl ?_
  refine lx_move rfl rfl rfl ?_
  refine lx_isA 0 rfl rfl Tryz.underlying22 Tryz.sizeOf5 rfl (by show 0 < bs.length; omega) rfl rfl ?_
  refine lx_load (v := U8 (bs.getD 0 0)) rfl Tryz.isAgg5 (fun w' h => hp_cell (n := 7) rfl (tk_at (xs := bs) q3 0 (by omega)) w' h) rfl rfl ?_
  refine lx_bin (v := U8 (bs.getD 0 0 &&& 31#8)) rfl rfl (fun _ => rfl) (fun _ => bin_and_u8 _ _ 31#8) rfl rfl ?_
  refine lx_isA 0 rfl rfl Tryz.underlying22 Tryz.sizeOf5 rfl (by show 0 < bs.length; omega) rfl rfl ?_
  refine lx_store 7 hGF rfl rfl rfl Tryz.sizeOf5 rfl (by show 0 < c7.length; omega) rfl ?_
  refine lx_nil ?_
  refine x_seq ?_
  refine xs_plain (E := EE []) ?_
  refine lx_move rfl rfl rfl ?_
  refine lx_bin (v := U8 (FG bs &&& 128#8)) rfl rfl (fun _ => rfl) (fun _ => bin_and_u8 _ _ 128#8) rfl rfl ?_
  refine lx_binB false rfl rfl (fun _ => rfl) (fun _ => bin_eql_u8 _ _ 0#8) (beq_eq_false_iff_ne.2 hf) rfl rfl ?_
  refine lx_nil ?_
  refine x_false rfl ?_
  refine x_skip ?_
  refine x_seq ?_
  refine xs_plain (E := EE []) ?_
  refine lx_move rfl rfl rfl ?_
  refine lx_bin (v := U8 (FG bs &&& 64#8)) rfl rfl (fun _ => rfl) (fun _ => bin_and_u8 _ _ 64#8) rfl rfl ?_
  refine lx_binB false rfl rfl (fun _ => rfl) (fun _ => bin_neq_u8 _ _ 0#8) ((bne_eq_false_iff_eq).2 h6) rfl rfl ?_
  refine lx_nil ?_
  refine x_false rfl ?_
  refine x_skip ?_
  refine xs_plain (E := EE []) ?_
  refine lx_move rfl rfl rfl ?_
  refine lx_move rfl rfl rfl ?_
  refine lx_bin (v := I 48) rfl rfl (fun _ => rfl) (fun _ => bin_sub_i _ _ _ (by unfold inI; omega)) rfl rfl ?_
  refine lx_slsl (l := 48) (h' := bs.length) rfl Tryz.underlying22 Tryz.sizeOf5 rfl rfl ⟨by omega, q2⟩ rfl rfl ?_
  refine lx_callC rfl rfl ent39 (fun w' hC hG => rfrom_lo b7 k7 _ _ 48 bs c7 q3 (by omega) (by omega) q2 w' hG (hp_row (n := 7) rfl w' hC)) rfl rfl ?_
  refine lx_move rfl rfl rfl ?_
  refine lx_ext rfl rfl rfl rfl ?_
  refine lx_ext rfl rfl rfl rfl ?_
  refine lx_allocr 10 hGF zv34 rfl rfl ?_
  intro b10
  refine lx_storea 10 hGF rfl rfl rfl Tryz.sizeOf34 (by simp) (by simp) (one_u64 _) rfl ?_
  refine lx_assign rfl rfl rfl ?_
  refine lx_nil ?_
  refine xs_plain (E := EE []) ?_
  refine lx_buildz zv34 Tryz.underlying34 Tryz.sizeOf25 rfl rfl ?_
  refine lx_allocr 12 hGF zv34 rfl rfl ?_
  intro b12
  refine lx_storea 12 hGF rfl rfl rfl Tryz.sizeOf34 (by rw [List.length_map, List.length_replicate]) (by simp) (one_u64 _) rfl ?_
  refine lx_nil ?_
  refine x_seq ?_
  refine xs_plain (E := EE []) ?_
  refine lx_move rfl rfl rfl ?_
  refine lx_nil ?_
  refine x_true rfl ?_
  refine x_plain (E := EE []) ?_
  refine lx_move rfl rfl rfl ?_
  refine lx_slsl (l := 0) (h' := 48) rfl Tryz.underlying22 Tryz.sizeOf5 rfl rfl ⟨by omega, Nat.le_trans (show 48 ≤ bs.length by omega) q2⟩ rfl rfl ?_
  refine lx_callC rfl rfl ent39 (fun w' hC hG => rfrom_lo b7 k7 _ _ 0 bs c7 q3 (by omega) (by omega) q2 w' hG (hp_row (n := 7) rfl w' hC)) rfl rfl ?_
  refine lx_move rfl rfl rfl ?_
  refine lx_ext rfl rfl rfl rfl ?_
  refine lx_ext rfl rfl rfl rfl ?_
  refine lx_storea 12 hGF rfl rfl rfl Tryz.sizeOf34 (by simp) (by simp) (one_u64 _) rfl ?_
  refine lx_nil ?_
  refine x_seq ?_
  refine xs_drawn (E := EE []) mixed (by kernel_rfl) (by kernel_rfl) (by kernel_rfl) ?_
  refine lx_loada 10 rfl rfl Tryz.isAgg34 Tryz.sizeOf34 (by simp) rfl rfl ?_
  refine lx_call rfl rfl ent41 (rp_pure) rfl rfl ?_
  refine lx_callB true rfl rfl ent40 (rless_pure _ _ (by simp) (by simp)) (less_y (LO_len (l := 48) (by omega)) hp) rfl rfl ?_
  refine lx_un rfl (fun _ => un_not _) rfl rfl ?_
  refine lx_move rfl rfl rfl ?_
  refine lx_loada 12 rfl rfl Tryz.isAgg34 Tryz.sizeOf34 (by simp) rfl rfl ?_
  refine lx_call rfl rfl ent41 (rp_pure) rfl rfl ?_
  refine lx_callB true rfl rfl ent40 (rless_pure _ _ (by simp) (by simp)) (less_y (LO_len (l := 0) (by omega)) hp2) rfl rfl ?_
  refine lx_un rfl (fun _ => un_not _) rfl rfl ?_
  refine lx_pick rfl rfl rfl rfl rfl ?_
  refine lx_nil ?_
  refine x_false rfl ?_
  refine x_skip ?_
  refine xs_plain (E := EE []) ?_
  refine lx_loada 10 rfl rfl Tryz.isAgg34 Tryz.sizeOf34 (by simp) rfl rfl ?_
  refine lx_loada 12 rfl rfl Tryz.isAgg34 Tryz.sizeOf34 (by simp) rfl rfl ?_
  refine lx_call rfl rfl ent43 (num_2 (LO_len (l := 48) (by omega)) hp (LO_len (l := 0) (by omega)) hp2 hx) rfl rfl ?_
  refine lx_move rfl rfl rfl ?_
  refine lx_bin (v := U8 (FG bs &&& 32#8)) rfl rfl (fun _ => rfl) (fun _ => bin_and_u8 _ _ 32#8) rfl rfl ?_
  refine lx_binB false rfl rfl (fun _ => rfl) (fun _ => bin_neq_u8 _ _ 0#8) (hl) rfl rfl ?_
  refine lx_move rfl rfl rfl ?_
  refine lx_call rfl rfl ent42 (hL) rfl rfl ?_
  refine lx_move rfl rfl rfl ?_
  refine lx_ext rfl rfl rfl rfl ?_
  refine lx_ext rfl rfl rfl rfl ?_
  refine lx_allocr 13 hGF zv40 rfl rfl ?_
  intro b13
  refine lx_storea 13 hGF rfl rfl rfl Tryz.sizeOf40 (by simp) (by simp) (one_u64 _) rfl ?_
  refine lx_assign rfl rfl rfl ?_
  refine lx_nil ?_
  refine x_seq ?_
  refine xs_plain (E := EE []) ?_
  refine lx_move rfl rfl rfl ?_
  refine lx_un rfl (fun _ => un_not _) rfl rfl ?_
  refine lx_move rfl rfl rfl ?_
  refine lx_fak 12 rfl Tryz.underlying40 rfl Tryz.sizeOf38 (by decide) rfl rfl rfl ?_
  refine lx_loado 13 _ rfl rfl Tryz.isAgg38 Tryz.sizeOf38 (by simp) (ld_m (by simp)) rfl rfl ?_
  refine lx_callB false rfl rfl ent44 (r5isZero _) (hz) rfl rfl ?_
  refine lx_move rfl rfl rfl ?_
  refine lx_skip rfl rfl rfl ?_
  refine lx_skip rfl rfl rfl ?_
  refine lx_skip rfl rfl rfl ?_
  refine lx_pick rfl rfl rfl rfl rfl ?_
  refine lx_pick rfl rfl rfl rfl rfl ?_
  refine lx_nil ?_
  refine x_false rfl ?_
  refine x_skip ?_
  refine x_seq ?_
  refine xs_plain (E := EE []) ?_
  refine lx_loada 13 rfl rfl Tryz.isAgg40 Tryz.sizeOf40 (by simp) rfl rfl ?_
  refine lx_callB false rfl rfl ent45 (r9inGroup _) (hg) rfl rfl ?_
  refine lx_un rfl (fun _ => un_not _) rfl rfl ?_
  refine lx_nil ?_
  refine x_true rfl ?_
  refine xs_plain (E := EE []) ?_
  refine lx_threeN three40 rfl rfl ?_
  refine lx_storea 4 hGF rfl rfl rfl Tryz.sizeOf40 (by simp) (by simp) (one_u64 _) rfl ?_
  refine lx_assign rfl rfl rfl ?_
  refine lx_nil ?_
  refine x_ret ?_
  repeat (first | refine kseq_ret ?_ | refine kblk_ret ?_)
  exact kret_ct 4 rfl rfl rfl rfl Tryz.isAgg40 Tryz.sizeOf40 (by simp) (fun w hw => ⟨rfl, hp_below hw⟩)
end Go.Proofs.YtamddkjccmhgaaaGreatDoor

namespace Go.Proofs.YtamddkjccmhgaaaGreatDoor
open Go.RowKit
set_option maxRecDepth 100000
set_option maxHeartbeats 1000000
attribute [local simp] fe_len nm_len AS_len SS_len MONT_len RM_len FRs_len BYs_len by48_len PLl TWOl ONEl N1l IVPl HFPl RTPl FL_len SP_len fe2_len SP2_len FM_len J1.GL_len J2.GL_len MK_len

def OR0 (bs : List (BitVec 8)) (v : BitVec 8) : List (BitVec 8) := bs.set 0 (bs.getD 0 0 ||| v)
theorem OR0_len (bs : List (BitVec 8)) (v : BitVec 8) : (OR0 bs v).length = bs.length := by simp [OR0]
attribute [local simp] OR0_len
theorem lay96a (x : Zp) : lay 0 ((by48 x).map U8) ((List.replicate 96 0#8).map U8) = (by48 x ++ List.replicate 48 0#8).map U8 := by
  have h := lay_pad (by48 x) 96 (by simp)
  rw [by48_len] at h
  exact h
theorem lay96b (x y : Zp) : lay 48 ((by48 y).map U8) ((by48 x ++ List.replicate 48 0#8).map U8) = (by48 x ++ by48 y).map U8 := by
  rw [lay_eq 48 _ _ (by simp)]
  rw [List.map_append, List.map_append]
  have e1 : ((by48 x).map U8 ++ (List.replicate 48 0#8).map U8).take 48 = (by48 x).map U8 := List.take_left' (by simp)
  have e2 : ((by48 x).map U8 ++ (List.replicate 48 0#8).map U8).drop (48 + ((by48 y).map U8).length) = [] := List.drop_eq_nil_of_le (by simp)
  rw [e1, e2, List.append_nil]
theorem sz5 : (Tryz.prog.info? 5).map (·.size) = some 1 := by kernel_rfl
end Go.Proofs.YtamddkjccmhgaaaGreatDoor

namespace Go.Proofs.YtamddkjccmhgaaaGreatDoor
open Go.RowKit
set_option maxRecDepth 100000
set_option maxHeartbeats 1000000
attribute [local simp] fe_len nm_len AS_len SS_len MONT_len RM_len FRs_len BYs_len by48_len PLl TWOl ONEl N1l IVPl HFPl RTPl FL_len SP_len fe2_len SP2_len FM_len J1.GL_len J2.GL_len MK_len OR0_len

def X1 (bs : List (BitVec 8)) : Zp := zp (BN (LO bs 0) 48)
def X2 (bs : List (BitVec 8)) : W2 := (zp (BN (LO bs 48) 48), zp (BN (LO bs 0) 48))
def LB (bs : List (BitVec 8)) : Bool := FG bs &&& 32#8 != 0#8
def NY {α : Type} (z : α) (inG : Option (α × α) → Prop) (l : Bool) (x y : α) (c : Int) (P : Option (α × α)) : Prop :=
  ((l = true ∧ y = z) ∧ c = 103 ∧ P = none) ∨ (¬ (l = true ∧ y = z) ∧ ((¬ inG (some (x, y)) ∧ c = 104 ∧ P = none) ∨ (inG (some (x, y)) ∧ c = 0 ∧ P = some (x, y))))
def FLG (bs : List (BitVec 8)) (n : Nat) {α : Type} (c : Int) (P : Option α) (R : Prop) : Prop :=
  (¬ bs.length = n ∧ c = 100 ∧ P = none) ∨ (bs.length = n ∧ ((FG bs &&& 128#8 = 0#8 ∧ c = 101 ∧ P = none) ∨ (¬ FG bs &&& 128#8 = 0#8 ∧ ((¬ FG bs &&& 64#8 = 0#8 ∧ c = INF bs n ∧ P = none) ∨ (FG bs &&& 64#8 = 0#8 ∧ R)))))
def D1 (bs : List (BitVec 8)) (c : Int) (P : Pt Zp) : Prop := FLG bs 48 c P ((¬ BN (LO bs 0) 48 < PP ∧ c = 102 ∧ P = none) ∨ (BN (LO bs 0) 48 < PP ∧
  ((¬ J1.LQ (X1 bs) ∧ c = 103 ∧ P = none) ∨ (J1.LQ (X1 bs) ∧ NY 0 (fun Q => E1.times Q ORD = none) (LB bs) (X1 bs) (J1.LY (X1 bs) (LB bs)) c P))))
def D2 (bs : List (BitVec 8)) (c : Int) (P : Pt W2) : Prop := FLG bs 96 c P ((¬ (BN (LO bs 48) 48 < PP ∧ BN (LO bs 0) 48 < PP) ∧ c = 102 ∧ P = none) ∨ ((BN (LO bs 48) 48 < PP ∧ BN (LO bs 0) 48 < PP) ∧
  ((¬ J2.LQ (X2 bs) ∧ c = 103 ∧ P = none) ∨ (∃ r, ml2 r r = J2.RS4 (X2 bs) ∧ LG2 r = false ∧ NY ze2 (fun Q => E2w.times Q ORD = none) (LB bs) (X2 bs) (J2.sgY r (LB bs)) c P))))
theorem NY_ex {α : Type} (z : α) (inG : Option (α × α) → Prop) (l : Bool) (x y : α) : ∃ c P, NY z inG l x y c P := by
  by_cases h : l = true ∧ y = z
  · exact ⟨103, none, .inl ⟨h, rfl, rfl⟩⟩
  · by_cases g : inG (some (x, y))
    · exact ⟨0, _, .inr ⟨h, .inr ⟨g, rfl, rfl⟩⟩⟩
    · exact ⟨104, none, .inr ⟨h, .inl ⟨g, rfl, rfl⟩⟩⟩
theorem FLG_ex (bs : List (BitVec 8)) (n : Nat) {α : Type} (R : Int → Option α → Prop) (hR : ∃ c P, R c P) : ∃ c P, FLG bs n c P (R c P) := by
  by_cases h : bs.length = n
  · by_cases f : FG bs &&& 128#8 = 0#8
    · exact ⟨101, none, .inr ⟨h, .inl ⟨f, rfl, rfl⟩⟩⟩
    · by_cases s : FG bs &&& 64#8 = 0#8
      · obtain ⟨c, P, r⟩ := hR
        exact ⟨c, P, .inr ⟨h, .inr ⟨f, .inr ⟨s, r⟩⟩⟩⟩
      · exact ⟨_, none, .inr ⟨h, .inr ⟨f, .inl ⟨s, rfl, rfl⟩⟩⟩⟩
  · exact ⟨100, none, .inl ⟨h, rfl, rfl⟩⟩
theorem D2_ex (bs : List (BitVec 8)) : ∃ c P, D2 bs c P := by
  refine FLG_ex bs 96 (fun c P => _) ?_
  by_cases h : BN (LO bs 48) 48 < PP ∧ BN (LO bs 0) 48 < PP
  · by_cases q : J2.LQ (X2 bs)
    · obtain ⟨r, hr, hl⟩ := J2.root_ex q
      obtain ⟨c, P, k⟩ := NY_ex ze2 (fun Q => E2w.times Q ORD = none) (LB bs) (X2 bs) (J2.sgY r (LB bs))
      exact ⟨c, P, .inr ⟨h, .inr ⟨r, hr, hl, k⟩⟩⟩
    · exact ⟨103, none, .inr ⟨h, .inl ⟨q, rfl, rfl⟩⟩⟩
  · exact ⟨102, none, .inl ⟨h, rfl, rfl⟩⟩
theorem yz1 {y : Zp} : ((y, 0) : W2) = ze2 ↔ y = 0 := ⟨fun h => congrArg Prod.fst h, fun h => by rw [h]; rfl⟩
theorem ing_2G {x y : W2} (h : E2w.onP (some (x, y))) (bs : List (BitVec 8)) (n m : Nat) (hm : BN bs n = m) : decide ((RMJ (x, y, on2) bs (8 * n)).2.2 = ze2) = decide (E2w.times (some (x, y)) m = none) := J2.ing_decG (P := some (x, y)) h bs n m hm
theorem ing_2 {x y : W2} (h : E2w.onP (some (x, y))) : decide ((RMJ (x, y, on2) ORB (8 * 32)).2.2 = ze2) = decide (E2w.times (some (x, y)) ORD = none) := ing_2G h ORB 32 ORD ORB_n
def RDC (e : Option Addr) (cap : Nat) (bs : List (BitVec 8)) (b : Bool) (x : W6) (c : Int) (w : World) : Prop := Calls Tryz.prog 11 [.slice e bs.length cap, .bool b].toArray w (fun r w' => r = .returned (.tuple #[EV6 x, I c]) ∧ Grow w w')
theorem r9dec2_y (e : Option Addr) (cap : Nat) (bs : List (BitVec 8)) (h48 : bs.length = 96) (hf : ¬ FG bs &&& 128#8 = 0#8) (h6 : FG bs &&& 64#8 = 0#8) (hp : BN (LO bs 48) 48 < PP) (hp2 : BN (LO bs 0) 48 < PP) (l : Bool) (hb : LB bs = l) (x y : W2) (hx : X2 bs = x) (hL : Pure Tryz.prog Gt 42 [EV2 x, .bool l, .bool true] (.tuple #[EV6 (x, y, on2), .bool true])) (on : E2w.onP (some (x, y))) (c : Int) (P : Pt W2) (h : NY ze2 (fun Q => E2w.times Q ORD = none) l x y c P) (w : World) (hw : Gt w) (hby : BytesAt w e bs) : RDC e cap bs true (RJ2 P) c w := by
  have hg := ing_2 on
  rcases h with ⟨⟨rfl, rfl⟩, rfl, rfl⟩ | ⟨hn, ⟨g, rfl, rfl⟩ | ⟨g, rfl, rfl⟩⟩
  · exact r9dec2_z e cap bs h48 hf h6 hp hp2 x ze2 hx hb hL (decide_eq_true rfl) w hw hby
  · have hg := hg.trans (decide_eq_false g)
    cases l with
    | true => exact r9dec2_tff e cap bs h48 hf h6 hp hp2 x y hx hb hL (decide_eq_false (fun k => hn ⟨rfl, k⟩)) hg w hw hby
    | false =>
      by_cases k : y = ze2
      · exact r9dec2_ftf e cap bs h48 hf h6 hp hp2 x y hx hb hL (decide_eq_true k) hg w hw hby
      · exact r9dec2_fff e cap bs h48 hf h6 hp hp2 x y hx hb hL (decide_eq_false k) hg w hw hby
  · have hg := hg.trans (decide_eq_true g)
    cases l with
    | true => exact r9dec2_tft e cap bs h48 hf h6 hp hp2 x y hx hb hL (decide_eq_false (fun k => hn ⟨rfl, k⟩)) hg w hw hby
    | false =>
      by_cases k : y = ze2
      · exact r9dec2_ftt e cap bs h48 hf h6 hp hp2 x y hx hb hL (decide_eq_true k) hg w hw hby
      · exact r9dec2_fft e cap bs h48 hf h6 hp hp2 x y hx hb hL (decide_eq_false k) hg w hw hby
theorem r9dec2_c (e : Option Addr) (cap : Nat) (bs : List (BitVec 8)) (c : Int) (P : Pt W2) (h : D2 bs c P) (w : World) (hw : Gt w) (hby : BytesAt w e bs) : RDC e cap bs true (RJ2 P) c w := by
  rcases h with ⟨h48, rfl, rfl⟩ | ⟨h48, ⟨f, rfl, rfl⟩ | ⟨f, ⟨s, rfl, rfl⟩ | ⟨s, ⟨p, rfl, rfl⟩ | ⟨⟨p, p2⟩, ⟨q, rfl, rfl⟩ | ⟨r, hr, hl, h⟩⟩⟩⟩⟩
  · exact r9dec2_len e cap bs h48 w hw
  · exact r9dec2_flag e cap bs h48 f w hw hby
  · exact r9dec2_inf e cap bs h48 f s w hw hby
  · by_cases p1 : BN (LO bs 48) 48 < PP
    · exact r9dec2_rb e cap bs h48 f s p1 (fun p2 => p ⟨p1, p2⟩) w hw hby
    · exact r9dec2_ra e cap bs h48 f s p1 w hw hby
  · exact r9dec2_cu e cap bs h48 f s p p2 (X2 bs) rfl (LB bs) rfl (J2.r9lift_n (X2 bs) (LB bs) q) w hw hby
  · exact r9dec2_y e cap bs h48 f s p p2 (LB bs) rfl (X2 bs) (J2.sgY r (LB bs)) rfl (J2.r9lift_y (X2 bs) r hr hl (LB bs)) (J2.onP_some (J2.E1_rs.2 (J2.sgY_sq hr (LB bs)))) c P h w hw hby
end Go.Proofs.YtamddkjccmhgaaaGreatDoor

namespace Go.Proofs.YtamddkjccmhgaaaGreatDoor
set_option maxRecDepth 100000
theorem bv_a : ∀ b : BitVec 8, b &&& 224#8 = 0#8 → (b ||| 128#8) &&& 31#8 = b ∧ ((b ||| 128#8) ||| 32#8) &&& 31#8 = b ∧ ¬ ((b ||| 128#8) &&& 224#8) &&& 128#8 = 0#8 ∧ ¬ (((b ||| 128#8) ||| 32#8) &&& 224#8) &&& 128#8 = 0#8 ∧ ((b ||| 128#8) &&& 224#8) &&& 64#8 = 0#8 ∧ (((b ||| 128#8) ||| 32#8) &&& 224#8) &&& 64#8 = 0#8 ∧ ((b ||| 128#8) &&& 224#8) &&& 32#8 = 0#8 ∧ ¬ (((b ||| 128#8) ||| 32#8) &&& 224#8) &&& 32#8 = 0#8 := by decide +kernel
theorem bv_1 : ∀ b : BitVec 8, ¬ (b &&& 224#8) &&& 128#8 = 0#8 → (b &&& 224#8) &&& 64#8 = 0#8 → (b &&& 224#8) &&& 32#8 = 0#8 → (b &&& 31#8) ||| 128#8 = b := by decide +kernel
theorem bv_2 : ∀ b : BitVec 8, ¬ (b &&& 224#8) &&& 128#8 = 0#8 → (b &&& 224#8) &&& 64#8 = 0#8 → ¬ (b &&& 224#8) &&& 32#8 = 0#8 → ((b &&& 31#8) ||| 128#8) ||| 32#8 = b := by decide +kernel
theorem bv_3 : ∀ b : BitVec 8, ¬ (b &&& 224#8) &&& 128#8 = 0#8 → ¬ (b &&& 224#8) &&& 64#8 = 0#8 → (b &&& 224#8) &&& 32#8 = 0#8 → b &&& 31#8 = 0#8 → b = 192#8 := by decide +kernel
def ENF (B : List (BitVec 8)) (l : Bool) : List (BitVec 8) := if l = true then OR0 (OR0 B 128#8) 32#8 else OR0 B 128#8
theorem MK_c (b : BitVec 8) (r : List (BitVec 8)) : MK (b :: r) = (b &&& 31#8) :: r := rfl
theorem FG_c (b : BitVec 8) (r : List (BitVec 8)) : FG (b :: r) = b &&& 224#8 := rfl
theorem ENF_t (b : BitVec 8) (r : List (BitVec 8)) : ENF (b :: r) true = ((b ||| 128#8) ||| 32#8) :: r := rfl
theorem ENF_f (b : BitVec 8) (r : List (BitVec 8)) : ENF (b :: r) false = (b ||| 128#8) :: r := rfl
theorem ENF_len (B : List (BitVec 8)) (l : Bool) : (ENF B l).length = B.length := by
  cases l <;> simp [ENF, OR0_len]
structure Top (B : List (BitVec 8)) : Prop where
  ne : 0 < B.length
  lt : B.getD 0 0 &&& 224#8 = 0#8
theorem ENF_all {B : List (BitVec 8)} (h : Top B) (l : Bool) : MK (ENF B l) = B ∧ ¬ FG (ENF B l) &&& 128#8 = 0#8 ∧ FG (ENF B l) &&& 64#8 = 0#8 ∧ LB (ENF B l) = l := by
  cases B with
  | nil => exact absurd h.ne (by decide)
  | cons b r =>
    obtain ⟨h1, h2, h3, h4, h5, h6, h7, h8⟩ := bv_a b h.lt
    cases l with
    | true => exact ⟨by rw [ENF_t, MK_c, h2], by rw [ENF_t, FG_c]; exact h4, by rw [ENF_t, FG_c]; exact h6, by rw [LB, ENF_t, FG_c]; exact bne_iff_ne.2 h8⟩
    | false => exact ⟨by rw [ENF_f, MK_c, h1], by rw [ENF_f, FG_c]; exact h3, by rw [ENF_f, FG_c]; exact h5, by rw [LB, ENF_f, FG_c]; exact bne_eq_false_iff_eq.2 h7⟩
theorem ENF_back {bs : List (BitVec 8)} (hn : 0 < bs.length) (hf : ¬ FG bs &&& 128#8 = 0#8) (h6 : FG bs &&& 64#8 = 0#8) : ENF (MK bs) (LB bs) = bs := by
  cases bs with
  | nil => exact absurd hn (by decide)
  | cons b r =>
    rw [FG_c] at hf h6
    by_cases h : (b &&& 224#8) &&& 32#8 = 0#8
    · have e : LB (b :: r) = false := by rw [LB, FG_c]; exact bne_eq_false_iff_eq.2 h
      rw [e, MK_c, ENF_f, bv_1 b hf h6 h]
    · have e : LB (b :: r) = true := by rw [LB, FG_c]; exact bne_iff_ne.2 h
      rw [e, MK_c, ENF_t, bv_2 b hf h6 h]
/-! ### Numbers below p have noughts there -/
theorem BN_top (bs : List (BitVec 8)) : ∀ n, (bs.getD 0 0).toNat * 256 ^ n ≤ BN bs (n + 1)
  | 0 => by rw [BN, BN]; omega
  | n + 1 => by
    have := BN_top bs n
    rw [BN, Nat.pow_succ]
    generalize 256 ^ n = p at *
    generalize BN bs (n + 1) = q at *
    generalize (bs.getD 0 0).toNat = t at *
    have : t * (p * 256) = t * p * 256 := by rw [Nat.mul_assoc]
    omega
theorem PP_top : PP < 32 * 256 ^ 47 := by decide +kernel
theorem bv_t : ∀ b : BitVec 8, b.toNat < 32 → b &&& 224#8 = 0#8 := by decide +kernel
theorem top_of {bs : List (BitVec 8)} (h : bs.length = 48) (hl : BN bs 48 < PP) : Top bs := by
  refine ⟨by omega, bv_t _ ?_⟩
  have h1 := BN_top bs 47
  have h2 := PP_top
  generalize (bs.getD 0 0).toNat = t at *
  have h3 : t * 256 ^ 47 < 32 * 256 ^ 47 := Nat.lt_of_le_of_lt h1 (Nat.lt_trans hl h2)
  exact Nat.lt_of_mul_lt_mul_right h3
theorem by48_lt (x : Zp) : BN (by48 x) 48 < PP := by rw [BN_by48]; exact x.isLt
theorem by48_top (x : Zp) : Top (by48 x) := top_of (by48_len x) (by48_lt x)
theorem zp_by48 (x : Zp) : zp (BN (by48 x) 48) = x := by
  rw [BN_by48]; exact zp_of x
end Go.Proofs.YtamddkjccmhgaaaGreatDoor

namespace Go.Proofs.YtamddkjccmhgaaaGreatDoor
set_option maxRecDepth 100000
def EN1 : Pt Zp → List (BitVec 8)
  | none => (List.replicate 48 0#8).set 0 192#8
  | some p => ENF (by48 p.1) (LG2 (p.2, 0))
def EN2 : Pt W2 → List (BitVec 8)
  | none => (List.replicate 96 0#8).set 0 192#8
  | some p => ENF (by48 p.1.2 ++ by48 p.1.1) (LG2 p.2)
theorem EN2_s (x y : W2) : EN2 (some (x, y)) = ENF (by48 x.2 ++ by48 x.1) (LG2 y) := rfl
theorem ng_re (y : Zp) : ng2 (y, 0) = (-y, 0) := w2_ext rfl (by show -(0 : Zp) = 0; exact z_n0')
theorem LG_negr {y : Zp} (h : y ≠ 0) : LG2 (-y, 0) = !LG2 (y, 0) := by
  rw [← ng_re]; exact LG2_neg (fun e => h (yz1.1 e))
/-! ### Roots -/
theorem LQ_of {x y : Zp} (h : y * y = J1.RS4 x) : J1.LQ x := by
  show SQr (J1.RS4 x) * SQr (J1.RS4 x) = J1.RS4 x
  rw [← h]; exact sq_has y
theorem LY_of {x y : Zp} (h : y * y = J1.RS4 x) : J1.LY x (LG2 (y, 0)) = y := by
  have hq := LQ_of h
  have s := SQ_of y
  have sm : LG2 (SQ (J1.RS4 x), 0) = false := LG_re (SQ_small hq)
  rw [h] at s
  cases hl : LG2 (y, 0) with
  | false =>
    rw [J1.LY_f hq]
    generalize SQ (J1.RS4 x) = t at *
    rcases s with e | e
    · exact e
    · by_cases h0 : y = 0
      · rw [e, h0]; exact z_n0'
      · rw [e, LG_negr h0, hl] at sm; cases sm
  | true =>
    rw [J1.LY_t hq]
    generalize SQ (J1.RS4 x) = t at *
    rcases s with e | e
    · rw [e, hl] at sm; cases sm
    · rw [e]; exact J1.neg_neg0 y
theorem sg_of {x y : W2} (h : ml2 y y = J2.RS4 x) : ∃ r, ml2 r r = J2.RS4 x ∧ LG2 r = false ∧ J2.sgY r (LG2 y) = y := by
  cases hl : LG2 y with
  | false => exact ⟨y, h, hl, rfl⟩
  | true =>
    have h0 : y ≠ ze2 := fun e => by rw [e, LG2_ze] at hl; cases hl
    exact ⟨ng2 y, (J2.ng_sq y).trans h, by rw [LG2_neg h0, hl]; rfl, R2.neg_neg y⟩
theorem LG_sg {r : W2} (hr : LG2 r = false) {l : Bool} (hn : ¬ (l = true ∧ J2.sgY r l = ze2)) : LG2 (J2.sgY r l) = l := by
  cases l with
  | false => exact hr
  | true =>
    by_cases h0 : r = ze2
    · exact absurd ⟨rfl, by show ng2 r = ze2; rw [h0]; exact R2.neg_zero⟩ hn
    · show LG2 (ng2 r) = true
      rw [LG2_neg h0, hr]; rfl
/-! ### Written and read -/
theorem LO_1 {bs : List (BitVec 8)} (h : bs.length = 48) : LO bs 0 = MK bs := by
  rw [LO, List.drop_zero]; exact List.take_of_length_le (by rw [MK_len]; omega)
theorem D1_enc {x y : Zp} (on : E1.on (x, y)) {c : Int} {Q : Pt Zp} (h : NY 0 (fun Q => E1.times Q ORD = none) (LG2 (y, 0)) x y c Q) : D1 (EN1 (some (x, y))) c Q := by
  have hy := J1.E1_rs.1 on
  obtain ⟨m, f, s, l⟩ := ENF_all (by48_top x) (LG2 (y, 0))
  have hlen : (EN1 (some (x, y))).length = 48 := (ENF_len _ _).trans (by48_len x)
  have lo : LO (EN1 (some (x, y))) 0 = by48 x := (LO_1 hlen).trans m
  have ex : X1 (EN1 (some (x, y))) = x := by rw [X1, lo, zp_by48]
  refine .inr ⟨hlen, .inr ⟨f, .inr ⟨s, .inr ⟨by rw [lo]; exact by48_lt x, .inr ?_⟩⟩⟩⟩
  rw [ex, show LB (EN1 (some (x, y))) = LG2 (y, 0) from l, LY_of hy]
  exact ⟨LQ_of hy, h⟩
theorem LO_2 {a b : List (BitVec 8)} {bs : List (BitVec 8)} (ha : a.length = 48) (hb : b.length = 48) (h : MK bs = a ++ b) : LO bs 0 = a ∧ LO bs 48 = b := by
  rw [LO, LO, h, List.drop_zero]
  exact ⟨List.take_left' ha, by rw [List.drop_left' ha]; exact List.take_of_length_le (by omega)⟩
theorem top_app {a b : List (BitVec 8)} (h : Top a) : Top (a ++ b) := by
  cases a with
  | nil => exact absurd h.ne (by decide)
  | cons x r => exact ⟨by simp, h.lt⟩
theorem D2_enc {x y : W2} (on : E2w.on (x, y)) {c : Int} {Q : Pt W2} (h : NY ze2 (fun Q => E2w.times Q ORD = none) (LG2 y) x y c Q) : D2 (EN2 (some (x, y))) c Q := by
  have hy := J2.E1_rs.1 on
  obtain ⟨m, f, s, l⟩ := ENF_all (top_app (b := by48 x.1) (by48_top x.2)) (LG2 y)
  have hlen : (EN2 (some (x, y))).length = 96 := (ENF_len _ _).trans (by rw [List.length_append, by48_len, by48_len])
  obtain ⟨l0, l48⟩ := LO_2 (bs := EN2 (some (x, y))) (by48_len x.2) (by48_len x.1) m
  have ex : X2 (EN2 (some (x, y))) = x := by rw [X2, l0, l48, zp_by48, zp_by48]
  obtain ⟨r, hr, hs, e⟩ := sg_of hy
  refine .inr ⟨hlen, .inr ⟨f, .inr ⟨s, .inr ⟨by rw [l0, l48]; exact ⟨by48_lt _, by48_lt _⟩, .inr ⟨r, ?_⟩⟩⟩⟩⟩
  rw [ex, show LB (EN2 (some (x, y))) = LG2 y from l, e]
  exact ⟨hr, hs, h⟩
theorem INF_0 {bs : List (BitVec 8)} {n : Nat} (hn : bs.length = n) (hp : 0 < n) (hf : ¬ FG bs &&& 128#8 = 0#8) (h6 : ¬ FG bs &&& 64#8 = 0#8) (h : INF bs n = 0) : bs = (List.replicate n 0#8).set 0 192#8 := by
  have hc : (∀ j, j < n → (MK bs).getD j 0 = 0#8) ∧ FG bs &&& 32#8 = 0#8 := by
    by_cases k : (∀ j, j < n → (MK bs).getD j 0 = 0#8) ∧ FG bs &&& 32#8 = 0#8
    · exact k
    · rw [INF, if_neg k] at h; cases h
  subst hn
  cases bs with
  | nil => exact absurd hp (by decide)
  | cons b r =>
    have e0 : b = 192#8 := bv_3 b hf h6 hc.2 (hc.1 0 hp)
    have er : r = List.replicate r.length 0#8 := by
      refine List.ext_getElem (by simp) fun i h1 h2 => ?_
      have := hc.1 (i + 1) (by simpa using h1)
      have e : r.getD i 0 = r[i] := by simp [List.getD, List.getElem?_eq_getElem h1]
      rw [MK_c, List.getD_cons_succ, e] at this
      rw [this, List.getElem_replicate]
    rw [e0]
    show 192#8 :: r = (List.replicate (r.length + 1) 0#8).set 0 192#8
    rw [List.replicate_succ, List.set_cons_zero, ← er]
theorem D2_back {bs : List (BitVec 8)} {P : Pt W2} (h : D2 bs 0 P) : EN2 P = bs := by
  rcases h with ⟨_, k, _⟩ | ⟨h96, ⟨_, k, _⟩ | ⟨f, ⟨s, k, rfl⟩ | ⟨s, ⟨_, k, _⟩ | ⟨⟨p, p2⟩, ⟨_, k, _⟩ | ⟨r, hr, hl, h⟩⟩⟩⟩⟩
  · cases k
  · cases k
  · exact (INF_0 h96 (by decide) f s k.symm).symm
  · cases k
  · cases k
  · rcases h with ⟨_, k, _⟩ | ⟨hn, ⟨_, k, _⟩ | ⟨_, _, rfl⟩⟩
    · cases k
    · cases k
    · rw [EN2_s, LG_sg hl hn]
      have e : by48 (X2 bs).2 ++ by48 (X2 bs).1 = MK bs := by
        rw [show (X2 bs).2 = zp (BN (LO bs 0) 48) from rfl, show (X2 bs).1 = zp (BN (LO bs 48) 48) from rfl, by48_back _ (LO_len (by omega)) p2, by48_back _ (LO_len (by omega)) p, LO, LO, List.drop_zero, List.take_of_length_le (l := (MK bs).drop 48) (by rw [List.length_drop, MK_len]; omega)]
        exact List.take_append_drop 48 (MK bs)
      rw [e]
      exact ENF_back (by omega) f s
theorem D1_none : D1 (EN1 none) 0 none := .inr ⟨by decide, .inr ⟨by decide, .inl ⟨by decide, by decide +kernel, rfl⟩⟩⟩
theorem D2_none : D2 (EN2 none) 0 none := .inr ⟨by decide, .inr ⟨by decide, .inl ⟨by decide, by decide +kernel, rfl⟩⟩⟩
theorem NY_in {α : Type} {z : α} {inG : Option (α × α) → Prop} {l : Bool} {x y : α} (h : ¬ (l = true ∧ y = z)) (g : inG (some (x, y))) : NY z inG l x y 0 (some (x, y)) := .inr ⟨h, .inr ⟨g, rfl, rfl⟩⟩
theorem lg_nz1 {y : Zp} : ¬ (LG2 (y, 0) = true ∧ y = 0) := fun ⟨h, e⟩ => by
  rw [e, show ((0, 0) : W2) = ze2 from rfl, LG2_ze] at h; cases h
theorem lg_nz2 {y : W2} : ¬ (LG2 y = true ∧ y = ze2) := fun ⟨h, e⟩ => by
  rw [e, LG2_ze] at h; cases h
theorem D1_in {P : Pt Zp} (on : E1.onP P) (g : E1.times P ORD = none) : D1 (EN1 P) 0 P := by
  cases P with
  | none => exact D1_none
  | some p => exact D1_enc (x := p.1) (y := p.2) on (NY_in lg_nz1 g)
theorem D2_in {P : Pt W2} (on : E2w.onP P) (g : E2w.times P ORD = none) : D2 (EN2 P) 0 P := by
  cases P with
  | none => exact D2_none
  | some p => exact D2_enc (x := p.1) (y := p.2) on (NY_in lg_nz2 g)
end Go.Proofs.YtamddkjccmhgaaaGreatDoor

namespace Go.Proofs.YtamddkjccmhgaaaGreatDoor
open Go.RowKit
set_option maxRecDepth 100000
set_option maxHeartbeats 1000000
attribute [local simp] fe_len nm_len AS_len SS_len MONT_len RM_len FRs_len BYs_len by48_len PLl TWOl ONEl N1l IVPl HFPl RTPl FL_len SP_len fe2_len SP2_len FM_len J1.GL_len J2.GL_len MK_len OR0_len
theorem rV10 {Q P : Prop} (k : Q) (h : Q → P := by intro k; (refine LY.run ?_); (repeat (first | refine y_move rfl rfl rfl ?_ | refine y_assign rfl rfl rfl ?_)); (first | refine y_nil ?_ | refine LY.mk ?_); exact k) : P := h k
theorem pV10 {Q P : Prop} (k : Q) (h : Q → P := by intro k; (refine xp ?_); (refine rV10 ?_); exact k) : P := h k

theorem ent9 : Enters Tryz.prog 9 := fun _ _ => by kernel_rfl
theorem bytes_same (xs : List (BitVec 8)) (a1 : Option Addr) (len1 cap1 : Nat) (a2 : Option Addr) (len2 cap2 : Nat) (hl1 : xs.length = len1) (hl2 : xs.length = len2) (w : World) (hw : Gt w) (h1 : BytesAt w a1 xs) (h2 : BytesAt w a2 xs) :
    Calls Tryz.prog 12 [.slice a1 len1 cap1, .slice a2 len2 cap2].toArray w (fun e w' => e = .returned (.bool true) ∧ Grow w w') := by
  have hGF : BOk Gt (pl w) := gt_low.plain hw
  refine calls_of_X (G := Gt) Tryz.func12 rfl rfl (Hp (pl w) []) (hp_refl (pl w) trivial rides_true) (good_hp hGF) ?_
  refine pV10 ?_
  refine pV10 ?_
  refine lx_convr rfl rfl (fun w' hw' => conv_str Tryz.underlying22 Tryz.underlying5 Tryz.underlying9 (h1.grow (hp_below hw')) _ _ hl1) rfl rfl ?_
  refine rV10 ?_
  refine lx_convr rfl rfl (fun w' hw' => conv_str Tryz.underlying22 Tryz.underlying5 Tryz.underlying9 (h2.grow (hp_below hw')) _ _ hl2) rfl rfl ?_
  refine lx_bin (v := .bool true) rfl rfl (fun _ => rfl) (fun w => bin_eq_str _ _ w) rfl rfl ?_
  refine rV10 ?_
  refine rt ?_
  exact kret_tmp rfl rfl (fun w hw => ⟨rfl, hp_below hw⟩)
theorem copy_s (e : Option Addr) (cap : Nat) (bs : List (BitVec 8)) (h0 : 0 < bs.length) (hl : bs.length ≤ 1000) (w : World) (hw : Gt w) (hby : BytesAt w e bs) : Calls Tryz.prog 9 [.slice e bs.length cap].toArray w (fun r w' => ∃ b7 c7 k7, r = .returned (.slice (some ⟨b7, 0, none⟩) bs.length k7) ∧ Grow w w' ∧ w.heap.size ≤ b7 ∧ OwnB w' b7 c7 5 ∧ c7.take bs.length = bs.map U8 ∧ bs.length ≤ k7) := by
  have hGF : BOk Gt (pl w) := gt_low.plain hw
  refine calls_of_X (G := Gt) Tryz.func9 rfl rfl (Hp (pl w) []) (hp_refl (pl w) trivial rides_true) (good_hp hGF) ?_
  refine pV10 ?_
  refine pV10 ?_
  refine lx_append (xs := []) (ys := bs) 7 hGF rfl rfl Tryz.underlying22 Tryz.underlying22 ti5 (.inl ⟨rfl, rfl, rfl⟩) (fun w' h => hby.grow (hp_below h)) (by simp; omega) rfl rfl (fun h0 => absurd (congrArg List.length h0) (by show ¬ bs.length = 0; omega)) (fun b7 c7 k7 q1 q2 q3 => ?_)
  refine rV10 ?_
  refine rt ?_
  exact kret_tmp rfl rfl (fun w hw => ⟨b7, c7, k7, rfl, hp_below hw, (hw.own 7 b7 _ _ rfl).2.elim id False.elim, (hw.own 7 b7 _ _ rfl).1, q3, q2⟩)
end Go.Proofs.YtamddkjccmhgaaaGreatDoor
