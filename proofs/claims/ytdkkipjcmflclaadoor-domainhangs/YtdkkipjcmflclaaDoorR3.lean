/-
  The walk of Maker.Sum.
-/
import Derived.Test.YtdkkipjcmflclaaDoorR2
namespace Go.Proofs.YtdkkipjcmflclaaDoor
open Go.RowKit
set_option maxRecDepth 100000
set_option maxHeartbeats 2000000
namespace Sh
theorem get_front (xs : List (BitVec 8)) (tail : List Value) (i : Nat) (h : i < xs.length) : (xs.map U8 ++ tail)[i]? = some (U8 (xs.getD i 0)) := by
  rw [List.getElem?_append_left (by simpa using h)]
  exact gm U8 xs 0 i h
def wk (p : List (BitVec 8)) (o : Nat) (x : BitVec 32) : Nat → BitVec 32
  | 0 => x
  | k + 1 => (wk p o x k <<< 8) ||| (p.getD (o + k) 0).setWidth 32
def V1 (p : List (BitVec 8)) (q : Nat) : Nat → List (BitVec 32)
  | 0 => List.replicate 64 0#32
  | i + 1 => (V1 p q i).set i (wk p (q + 4 * i) ((V1 p q i).getD i 0) 4)
theorem V1_len (p : List (BitVec 8)) (q : Nat) : ∀ i, (V1 p q i).length = 64
  | 0 => by simp [V1]
  | i + 1 => by simp [V1, V1_len p q i]
theorem set_same (l : List (BitVec 32)) (i : Nat) (h : i < l.length) : l = l.set i (l.getD i 0) := by
  have e : l.getD i 0 = l[i] := by simp [h]
  rw [e, List.set_getElem_self]
theorem getD_set (l : List (BitVec 32)) (i : Nat) (x : BitVec 32) (h : i < l.length) : (l.set i x).getD i 0 = x := by simp [h]
def r0 (x : BitVec 32) : BitVec 32 := turn x 7 ^^^ turn x 18 ^^^ (x >>> 3)
def r1 (x : BitVec 32) : BitVec 32 := turn x 17 ^^^ turn x 19 ^^^ (x >>> 10)
def r5 (ws : List (BitVec 32)) (i : Nat) : BitVec 32 := ws.getD (i - 16) 0 + r0 (ws.getD (i - 15) 0) + ws.getD (i - 7) 0 + r1 (ws.getD (i - 2) 0)
def V2 (p : List (BitVec 8)) (q : Nat) : Nat → List (BitVec 32)
  | 0 => V1 p q 16
  | j + 1 => (V2 p q j).set (16 + j) (r5 (V2 p q j) (16 + j))
theorem V2_len (p : List (BitVec 8)) (q : Nat) : ∀ j, (V2 p q j).length = 64
  | 0 => V1_len p q 16
  | j + 1 => by simp [V2, V2_len p q j]
def rt (v : List (BitVec 32)) (k w : BitVec 32) : BitVec 32 := v.getD 7 0 + (turn (v.getD 4 0) 6 ^^^ turn (v.getD 4 0) 11 ^^^ turn (v.getD 4 0) 25) + ((v.getD 4 0 &&& v.getD 5 0) ^^^ (~~~(v.getD 4 0) &&& v.getD 6 0)) + k + w
def ru (v : List (BitVec 32)) : BitVec 32 := (turn (v.getD 0 0) 2 ^^^ turn (v.getD 0 0) 13 ^^^ turn (v.getD 0 0) 22) + ((v.getD 0 0 &&& v.getD 1 0) ^^^ (v.getD 0 0 &&& v.getD 2 0) ^^^ (v.getD 1 0 &&& v.getD 2 0))
def rr (v : List (BitVec 32)) (k w : BitVec 32) : List (BitVec 32) := [rt v k w + ru v, v.getD 0 0, v.getD 1 0, v.getD 2 0, v.getD 3 0 + rt v k w, v.getD 4 0, v.getD 5 0, v.getD 6 0]
def RRs (h ws : List (BitVec 32)) : Nat → List (BitVec 32)
  | 0 => h
  | j + 1 => rr (RRs h ws j) (MK.getD (8 + j) 0) (ws.getD j 0)
theorem RRs_len (h ws : List (BitVec 32)) (hh : h.length = 8) : ∀ j, (RRs h ws j).length = 8
  | 0 => hh
  | _ + 1 => rfl
def HAs (h v : List (BitVec 32)) : Nat → List (BitVec 32)
  | 0 => h
  | i + 1 => (HAs h v i).set i ((HAs h v i).getD i 0 + v.getD i 0)
theorem HAs_len (h v : List (BitVec 32)) : ∀ j, (HAs h v j).length = h.length
  | 0 => rfl
  | i + 1 => by simp [HAs, HAs_len h v i]
def RK (p : List (BitVec 8)) : Nat → List (BitVec 32)
  | 0 => IV
  | k + 1 => HAs (RK p k) (RRs (RK p k) (V2 p (64 * k) 48) 64) 8
theorem RK_len (p : List (BitVec 8)) : ∀ k, (RK p k).length = 8
  | 0 => rfl
  | k + 1 => by rw [RK, HAs_len, RK_len p k]
def OD (h : List (BitVec 32)) : Nat → List (BitVec 8)
  | 0 => List.replicate 32 0#8
  | i + 1 => (OD h i).set i ((h.getD (i / 4) 0 >>> (24 - 8 * ((i % 4 : Nat) : Int)).toNat).setWidth 8)
theorem OD_len (h : List (BitVec 32)) : ∀ j, (OD h j).length = 32
  | 0 => by simp [OD]
  | i + 1 => by simp [OD, OD_len h i]
def MSUM (bs : List (BitVec 8)) : List (BitVec 8) := OD (RK (PAD bs) ((PAD bs).length / 64)) 32
theorem MK_len : MK.length = 72 := rfl
theorem pad_mod (bs : List (BitVec 8)) : (PAD bs).length % 64 = 0 := by
  rw [PAD, PE_len]
  unfold nz
  omega

theorem msum_calls (bm : Nat) (a : Option Addr) (cap : Nat) (bs : List (BitVec 8)) (hl : bs.length ≤ 70368744170000) (w : World) (hw : Gt w) (ho : OwnB w bm (MK.map U32) 53) (hby : BytesAt w a bs) :
    Calls Tryd.prog 44 [.pointer (some ⟨bm, 0, none⟩), .slice a bs.length cap].toArray w (fun e w' => e = .returned (.agg ((MSUM bs).map U8).toArray) ∧ Grow w w') := by
  have hGF : BOk Gt (pl w) := gt_low.plain hw
  refine calls_of_X (G := Gt) Tryd.func44 rfl rfl (Hp (pl w) []) (hp_refl (pl w) trivial rides_true) (good_hp hGF) ?_
  refine xs_plain (E := EE [46]) ?_
  refine lx_allocr 4 hGF zv22 rfl rfl ?_
  intro b4
  refine lx_nil ?_
  refine xs_plain (E := EE [46]) ?_
  refine lx_move rfl rfl rfl ?_
  refine lx_nilc rfl rfl rfl ?_
  refine lx_fak 0 rfl Tryd.underlying53 rfl Tryd.sizeOf50 (by decide) rfl rfl rfl ?_
  refine lx_loadr rfl Tryd.isAgg50 Tryd.sizeOf50 (cs := IV.map U32) rfl (hp_oldrange (B := pl w) (own_range ho (fun j v hv => by rw [Nat.zero_add]; show (MK.map U32)[j]? = some v; rw [MK, List.map_append, List.getElem?_append_left (by rcases Nat.lt_or_ge j (IV.map U32).length with h | h; exact h; rw [List.getElem?_eq_none h] at hv; cases hv)]; exact hv)) (fun h => h)) rfl rfl ?_
  refine lx_allocr 5 hGF zv50 rfl rfl ?_
  intro b5
  refine lx_storea (vs := IV.map U32) 5 hGF rfl rfl rfl Tryd.sizeOf50 rfl (by rw [List.length_map, List.length_replicate]) (one_u32 _) rfl ?_
  refine lx_nil ?_
  refine xs_plain (E := EE [46]) ?_
  refine lx_move rfl rfl rfl ?_
  refine lx_callE rfl rfl ent46 rfl rfl (fun w' hw' => (pad_calls _ _ bs hl w' (hGF.g _ _ _ hw') (hby.grow (hp_below hw'))).mono fun e w'' h => ?_)
  obtain ⟨sv, rfl, hg, hcl⟩ := h
  rcases hcl with ⟨h0, _⟩ | ⟨b6, c, cap6, rfl, hb6, hob, hcc, hle, htk⟩
  · exact absurd (congrArg List.length h0) (by rw [PAD, PE_len]; simp)
  have hm64 := pad_mod bs
  have hpl : (PAD bs).length ≤ bs.length + 200 := by rw [PAD, PE_len]; unfold nz; omega
  rw [show MSUM bs = OD (RK (PAD bs) ((PAD bs).length / 64)) 32 from rfl]
  generalize PAD bs = p at hle htk hm64 hpl ⊢
  refine ⟨_, _, rfl, good_hp hGF, hw'.news rides_true hg [(6, b6, c, 5)] ?_ inj_one, ?_⟩
  · intro n' b' c' t' hl
    rcases lkB_cons hl with ⟨_, e⟩ | ⟨_, hl⟩
    · cases e; exact ⟨hb6, hob⟩
    · cases hl
  obtain ⟨tail, rfl⟩ : ∃ tail, c = p.map U8 ++ tail := ⟨c.drop p.length, by rw [← htk, List.take_append_drop]⟩
  clear hw' hg hb6 hob hcc htk
  refine lx_assign rfl rfl rfl ?_
  refine lx_nil ?_
  refine x_seq ?_
  refine xs_plain (E := EE [46]) ?_
  refine lx_assign rfl rfl rfl ?_
  refine lx_nil ?_
  refine x_block ?_
  refine x_for (ι := { k : Nat // 64 * k ≤ p.length }) (fun x => [(0, .pointer (some ⟨bm, 0, none⟩)), (4, .pointer (some ⟨b4, 0, none⟩)), (5, .pointer (some ⟨b5, 0, none⟩)), (6, .slice (some ⟨b6, 0, none⟩) p.length cap6), (7, I ((64 * x.1 : Nat) : Int))]) (fun x => [(4, b4, (List.replicate 32 0#8).map U8, 22), (6, b6, p.map U8 ++ tail, 5), (5, b5, (RK p x.1).map U32, 50)]) (fun x => p.length - x.1) ⟨0, by omega⟩ hGF ⟨rfl, rfl, rfl, rfl, rfl, trivial⟩ ⟨rfl, rfl, rfl, trivial⟩ ?_
  rintro ⟨k, hk⟩
  dsimp only
  refine x_seq ?_
  refine xs_plain (E := EE [46]) ?_
  refine lx_move rfl rfl rfl ?_
  refine lx_move rfl rfl rfl ?_
  refine lx_len rfl (fun _ => len_slice Tryd.underlying39 _ _ _ _) rfl rfl ?_
  refine lx_bin rfl rfl (fun _ => rfl) (fun _ => bin_lss_i _ _ _) rfl rfl ?_
  refine lx_nil ?_
  refine x_if rfl (fun hc => ?_) (fun hc => ?_)
  · simp only [decide_eq_true_eq] at hc
    have hk64 : 64 * k + 64 ≤ p.length := by omega
    refine x_skip ?_
    refine x_seq ?_
    refine x_block ?_
    refine xs_plain (E := EE [46]) ?_
    refine lx_allocr 8 hGF zv51 rfl rfl ?_
    intro b8
    refine lx_nil ?_
    refine x_seq ?_
    refine xs_plain (E := EE [46]) ?_
    refine lx_assign rfl rfl rfl ?_
    refine lx_nil ?_
    refine x_block ?_
    refine x_for (ι := { i : Nat // i ≤ 16 }) (fun x => [(0, .pointer (some ⟨bm, 0, none⟩)), (4, .pointer (some ⟨b4, 0, none⟩)), (5, .pointer (some ⟨b5, 0, none⟩)), (6, .slice (some ⟨b6, 0, none⟩) p.length cap6), (7, I ((64 * k : Nat) : Int)), (8, .pointer (some ⟨b8, 0, none⟩)), (9, I (x.1 : Int))]) (fun x => [(4, b4, (List.replicate 32 0#8).map U8, 22), (6, b6, p.map U8 ++ tail, 5), (5, b5, (RK p k).map U32, 50), (8, b8, (V1 p (64 * k) x.1).map U32, 51)]) (fun x => 16 - x.1) ⟨0, by omega⟩ hGF ⟨rfl, rfl, rfl, rfl, rfl, rfl, rfl, trivial⟩ ⟨rfl, rfl, rfl, rfl, trivial⟩ ?_
    rintro ⟨i, hi⟩
    dsimp only
    refine x_seq ?_
    refine xs_plain (E := EE [46]) ?_
    refine lx_move rfl rfl rfl ?_
    refine lx_bin rfl rfl (fun _ => rfl) (fun _ => bin_lss_i _ _ _) rfl rfl ?_
    refine lx_nil ?_
    refine x_if rfl (fun hc => ?_) (fun hc => ?_)
    · simp only [decide_eq_true_eq] at hc
      refine x_skip ?_
      refine x_seq ?_
      refine x_block ?_
      refine xs_plain (E := EE [46]) ?_
      refine lx_assign rfl rfl rfl ?_
      refine lx_nil ?_
      refine x_block ?_
      refine x_for (ι := { m : Nat // m ≤ 4 }) (fun x => [(0, .pointer (some ⟨bm, 0, none⟩)), (4, .pointer (some ⟨b4, 0, none⟩)), (5, .pointer (some ⟨b5, 0, none⟩)), (6, .slice (some ⟨b6, 0, none⟩) p.length cap6), (7, I ((64 * k : Nat) : Int)), (8, .pointer (some ⟨b8, 0, none⟩)), (9, I (i : Int)), (10, I (x.1 : Int))]) (fun x => [(4, b4, (List.replicate 32 0#8).map U8, 22), (6, b6, p.map U8 ++ tail, 5), (5, b5, (RK p k).map U32, 50), (8, b8, ((V1 p (64 * k) i).set i (wk p (64 * k + 4 * i) ((V1 p (64 * k) i).getD i 0) x.1)).map U32, 51)]) (fun x => 4 - x.1) ⟨0, by omega⟩ hGF ⟨rfl, rfl, rfl, rfl, rfl, rfl, rfl, rfl, trivial⟩ ⟨rfl, rfl, rfl, congrArg (fun l => some (b8, List.map U32 l, 51)) (set_same _ i (by rw [V1_len]; omega)), trivial⟩ ?_
      rintro ⟨m, hm⟩
      dsimp only
      refine x_seq ?_
      refine xs_plain (E := EE [46]) ?_
      refine lx_move rfl rfl rfl ?_
      refine lx_bin rfl rfl (fun _ => rfl) (fun _ => bin_lss_i _ _ _) rfl rfl ?_
      refine lx_nil ?_
      refine x_if rfl (fun hc => ?_) (fun hc => ?_)
      · simp only [decide_eq_true_eq] at hc
        have hq : 64 * k + 4 * i + m < p.length := by omega
        refine x_skip ?_
        refine x_seq ?_
        refine x_block ?_
        refine x_drawn (E := EE [46]) mixed (by kernel_rfl) (by kernel_rfl) (by kernel_rfl) ?_
        refine lx_move rfl rfl rfl ?_
        refine lx_move rfl rfl rfl ?_
        refine lx_ia0 (i) rfl rfl Tryd.underlying51 Tryd.sizeOf49 (by omega) (by omega) rfl rfl ?_
        refine lx_loadm 8 U32 0 rfl rfl Tryd.isAgg49 (by rw [List.length_set, V1_len]; omega) rfl rfl ?_
        rw [getD_set _ _ _ (by rw [V1_len]; omega)]
        refine lx_bin rfl rfl (fun _ => rfl) (fun _ => bin_shl_u32 _ _ _) rfl rfl ?_
        refine lx_move rfl rfl rfl ?_
        refine lx_move rfl rfl rfl ?_
        refine lx_move rfl rfl rfl ?_
        refine lx_bin rfl rfl (fun _ => rfl) (fun _ => bin_mul_i _ _ _ (by unfold inI; omega)) rfl rfl ?_
        refine lx_bin rfl rfl (fun _ => rfl) (fun _ => bin_add_i _ _ _ (by unfold inI; omega)) rfl rfl ?_
        refine lx_move rfl rfl rfl ?_
        refine lx_bin rfl rfl (fun _ => rfl) (fun _ => bin_add_i _ _ _ (by unfold inI; omega)) rfl rfl ?_
        refine lx_is1 (64 * k + 4 * i + m) rfl rfl Tryd.underlying39 Tryd.sizeOf5 (by omega) hq rfl rfl ?_
        rw [Nat.zero_add]
        refine lx_loadl 6 rfl rfl (get_front p tail (64 * k + 4 * i + m) hq) Tryd.isAgg5 rfl rfl ?_
        refine lx_conv rfl rfl (fun _ => conv_u8_u32 Tryd.underlying5 Tryd.underlying49 _) rfl rfl ?_
        refine lx_bin rfl rfl (fun _ => rfl) (fun _ => bin_or_u32 _ _ _) rfl rfl ?_
        refine lx_ia0 (i) rfl rfl Tryd.underlying51 Tryd.sizeOf49 (by omega) (by omega) rfl rfl ?_
        refine lx_storem 8 U32 hGF rfl rfl rfl Tryd.sizeOf49 rfl (by rw [List.length_set, V1_len]; omega) rfl ?_
        rw [List.set_set]
        refine lx_nil ?_
        refine x_plain (E := EE [46]) ?_
        refine lx_move rfl rfl rfl ?_
        refine lx_bin rfl rfl (fun _ => rfl) (fun _ => bin_add_i _ _ _ (by unfold inI; omega)) rfl rfl ?_
        refine lx_assign rfl rfl rfl ?_
        refine lx_nil ?_
        repeat (refine kblk_n ?_)
        refine kseq_n ?_
        exact ⟨rfl, ⟨m + 1, by omega⟩, _, by show 4 - (m + 1) < 4 - m; omega, rfl, ⟨rfl, rfl, rfl, rfl, rfl, rfl, rfl, rfl, trivial⟩, ⟨rfl, rfl, rfl, rfl, trivial⟩⟩
      · obtain rfl : m = 4 := by simp at hc; omega
        refine x_exit ?_
        refine x_plain (E := EE [46]) ?_
        refine lx_move rfl rfl rfl ?_
        refine lx_bin rfl rfl (fun _ => rfl) (fun _ => bin_add_i _ _ _ (by unfold inI; omega)) rfl rfl ?_
        refine lx_assign rfl rfl rfl ?_
        refine lx_nil ?_
        repeat (refine kblk_n ?_)
        refine kseq_n ?_
        exact ⟨rfl, ⟨i + 1, by omega⟩, _, by show 16 - (i + 1) < 16 - i; omega, rfl, ⟨rfl, rfl, rfl, rfl, rfl, rfl, rfl, trivial⟩, ⟨rfl, rfl, rfl, rfl, trivial⟩⟩
    · obtain rfl : i = 16 := by simp at hc; omega
      refine x_exit ?_
      refine x_seq ?_
      refine xs_plain (E := EE [46]) ?_
      refine lx_assign rfl rfl rfl ?_
      refine lx_nil ?_
      refine x_block ?_
      refine x_for (ι := { j : Nat // j ≤ 48 }) (fun x => [(0, .pointer (some ⟨bm, 0, none⟩)), (4, .pointer (some ⟨b4, 0, none⟩)), (5, .pointer (some ⟨b5, 0, none⟩)), (6, .slice (some ⟨b6, 0, none⟩) p.length cap6), (7, I ((64 * k : Nat) : Int)), (8, .pointer (some ⟨b8, 0, none⟩)), (11, I ((16 + x.1 : Nat) : Int))]) (fun x => [(4, b4, (List.replicate 32 0#8).map U8, 22), (6, b6, p.map U8 ++ tail, 5), (5, b5, (RK p k).map U32, 50), (8, b8, (V2 p (64 * k) x.1).map U32, 51)]) (fun x => 48 - x.1) ⟨0, by omega⟩ hGF ⟨rfl, rfl, rfl, rfl, rfl, rfl, rfl, trivial⟩ ⟨rfl, rfl, rfl, rfl, trivial⟩ ?_
      rintro ⟨j, hj⟩
      dsimp only
      refine x_seq ?_
      refine xs_plain (E := EE [46]) ?_
      refine lx_move rfl rfl rfl ?_
      refine lx_bin rfl rfl (fun _ => rfl) (fun _ => bin_lss_i _ _ _) rfl rfl ?_
      refine lx_nil ?_
      refine x_if rfl (fun hc => ?_) (fun hc => ?_)
      · simp only [decide_eq_true_eq] at hc
        refine x_skip ?_
        refine x_seq ?_
        refine x_block ?_
        refine xs_drawn (E := EE [46]) mixed (by kernel_rfl) (by kernel_rfl) (by kernel_rfl) ?_
        refine lx_move rfl rfl rfl ?_
        refine lx_bin rfl rfl (fun _ => rfl) (fun _ => bin_sub_i _ _ _ (by unfold inI; omega)) rfl rfl ?_
        refine lx_ia0 (((16 + j) - 15)) rfl rfl Tryd.underlying51 Tryd.sizeOf49 (by omega) (by omega) rfl rfl ?_
        refine lx_loadm 8 U32 0 rfl rfl Tryd.isAgg49 (by rw [V2_len]; omega) rfl rfl ?_
        refine lx_move rfl rfl rfl ?_
        refine lx_bin rfl rfl (fun _ => rfl) (fun _ => bin_sub_i _ _ _ (by unfold inI; omega)) rfl rfl ?_
        refine lx_ia0 (((16 + j) - 2)) rfl rfl Tryd.underlying51 Tryd.sizeOf49 (by omega) (by omega) rfl rfl ?_
        refine lx_loadm 8 U32 0 rfl rfl Tryd.isAgg49 (by rw [V2_len]; omega) rfl rfl ?_
        refine lx_assign rfl rfl rfl ?_
        refine lx_assign rfl rfl rfl ?_
        refine lx_nil ?_
        refine x_drawn (E := EE [46]) mixed (by kernel_rfl) (by kernel_rfl) (by kernel_rfl) ?_
        refine lx_move rfl rfl rfl ?_
        refine lx_move rfl rfl rfl ?_
        refine lx_bin rfl rfl (fun _ => rfl) (fun _ => bin_sub_i _ _ _ (by unfold inI; omega)) rfl rfl ?_
        refine lx_ia0 (((16 + j) - 16)) rfl rfl Tryd.underlying51 Tryd.sizeOf49 (by omega) (by omega) rfl rfl ?_
        refine lx_loadm 8 U32 0 rfl rfl Tryd.isAgg49 (by rw [V2_len]; omega) rfl rfl ?_
        refine lx_move rfl rfl rfl ?_
        refine lx_call rfl rfl ent47 (turn_pure _ _ (by omega) (by omega)) rfl rfl ?_
        refine lx_move rfl rfl rfl ?_
        refine lx_call rfl rfl ent47 (turn_pure _ _ (by omega) (by omega)) rfl rfl ?_
        refine lx_bin rfl rfl (fun _ => rfl) (fun _ => bin_xor_u32 _ _ _) rfl rfl ?_
        refine lx_move rfl rfl rfl ?_
        refine lx_bin rfl rfl (fun _ => rfl) (fun _ => bin_shr_u32 _ _ _) rfl rfl ?_
        refine lx_bin rfl rfl (fun _ => rfl) (fun _ => bin_xor_u32 _ _ _) rfl rfl ?_
        refine lx_bin rfl rfl (fun _ => rfl) (fun _ => bin_add_u32 _ _ _) rfl rfl ?_
        refine lx_move rfl rfl rfl ?_
        refine lx_bin rfl rfl (fun _ => rfl) (fun _ => bin_sub_i _ _ _ (by unfold inI; omega)) rfl rfl ?_
        refine lx_ia0 (((16 + j) - 7)) rfl rfl Tryd.underlying51 Tryd.sizeOf49 (by omega) (by omega) rfl rfl ?_
        refine lx_loadm 8 U32 0 rfl rfl Tryd.isAgg49 (by rw [V2_len]; omega) rfl rfl ?_
        refine lx_bin rfl rfl (fun _ => rfl) (fun _ => bin_add_u32 _ _ _) rfl rfl ?_
        refine lx_move rfl rfl rfl ?_
        refine lx_call rfl rfl ent47 (turn_pure _ _ (by omega) (by omega)) rfl rfl ?_
        refine lx_move rfl rfl rfl ?_
        refine lx_call rfl rfl ent47 (turn_pure _ _ (by omega) (by omega)) rfl rfl ?_
        refine lx_bin rfl rfl (fun _ => rfl) (fun _ => bin_xor_u32 _ _ _) rfl rfl ?_
        refine lx_move rfl rfl rfl ?_
        refine lx_bin rfl rfl (fun _ => rfl) (fun _ => bin_shr_u32 _ _ _) rfl rfl ?_
        refine lx_bin rfl rfl (fun _ => rfl) (fun _ => bin_xor_u32 _ _ _) rfl rfl ?_
        refine lx_bin rfl rfl (fun _ => rfl) (fun _ => bin_add_u32 _ _ _) rfl rfl ?_
        refine lx_ia0 ((16 + j)) rfl rfl Tryd.underlying51 Tryd.sizeOf49 (by omega) (by omega) rfl rfl ?_
        refine lx_storem 8 U32 hGF rfl rfl rfl Tryd.sizeOf49 rfl (by rw [V2_len]; omega) rfl ?_
        refine lx_nil ?_
        refine x_plain (E := EE [46]) ?_
        refine lx_move rfl rfl rfl ?_
        refine lx_bin rfl rfl (fun _ => rfl) (fun _ => bin_add_i _ _ _ (by unfold inI; omega)) rfl rfl ?_
        refine lx_assign rfl rfl rfl ?_
        refine lx_nil ?_
        repeat (refine kblk_n ?_)
        refine kseq_n ?_
        exact ⟨rfl, ⟨j + 1, by omega⟩, _, by show 48 - (j + 1) < 48 - j; omega, rfl, ⟨rfl, rfl, rfl, rfl, rfl, rfl, rfl, trivial⟩, ⟨rfl, rfl, rfl, rfl, trivial⟩⟩
      · obtain rfl : j = 48 := by simp at hc; omega
        refine x_exit ?_
        refine xs_plain (E := EE [46]) ?_
        refine lx_loada 5 rfl rfl Tryd.isAgg50 Tryd.sizeOf50 (by rw [List.length_map, RK_len]) rfl rfl ?_
        refine lx_allocr 14 hGF zv50 rfl rfl ?_
        intro b14
        refine lx_storea 14 hGF rfl rfl rfl Tryd.sizeOf50 (by rw [List.length_map, RK_len p k]) (by rw [List.length_map, List.length_replicate]) (one_u32 _) rfl ?_
        refine lx_nil ?_
        refine x_seq ?_
        refine xs_plain (E := EE [46]) ?_
        refine lx_assign rfl rfl rfl ?_
        refine lx_nil ?_
        refine x_block ?_
        refine x_for (ι := { r : Nat // r ≤ 64 }) (fun x => [(0, .pointer (some ⟨bm, 0, none⟩)), (4, .pointer (some ⟨b4, 0, none⟩)), (5, .pointer (some ⟨b5, 0, none⟩)), (6, .slice (some ⟨b6, 0, none⟩) p.length cap6), (7, I ((64 * k : Nat) : Int)), (8, .pointer (some ⟨b8, 0, none⟩)), (14, .pointer (some ⟨b14, 0, none⟩)), (15, I (x.1 : Int))]) (fun x => [(4, b4, (List.replicate 32 0#8).map U8, 22), (6, b6, p.map U8 ++ tail, 5), (5, b5, (RK p k).map U32, 50), (8, b8, (V2 p (64 * k) 48).map U32, 51), (14, b14, (RRs (RK p k) (V2 p (64 * k) 48) x.1).map U32, 50)]) (fun x => 64 - x.1) ⟨0, by omega⟩ hGF ⟨rfl, rfl, rfl, rfl, rfl, rfl, rfl, rfl, trivial⟩ ⟨rfl, rfl, rfl, rfl, rfl, trivial⟩ ?_
        rintro ⟨r, hr⟩
        dsimp only
        refine x_seq ?_
        refine xs_plain (E := EE [46]) ?_
        refine lx_move rfl rfl rfl ?_
        refine lx_bin rfl rfl (fun _ => rfl) (fun _ => bin_lss_i _ _ _) rfl rfl ?_
        refine lx_nil ?_
        refine x_if rfl (fun hc => ?_) (fun hc => ?_)
        · simp only [decide_eq_true_eq] at hc
          refine x_skip ?_
          refine x_seq ?_
          refine x_block ?_
          refine xs_drawn (E := EE [46]) mixed (by kernel_rfl) (by kernel_rfl) (by kernel_rfl) ?_
          refine lx_ia0 (4) rfl rfl Tryd.underlying50 Tryd.sizeOf49 (by omega) (by omega) rfl rfl ?_
          refine lx_loadm 14 U32 0 rfl rfl Tryd.isAgg49 (by rw [RRs_len _ _ (RK_len p k)]; omega) rfl rfl ?_
          refine lx_ia0 (0) rfl rfl Tryd.underlying50 Tryd.sizeOf49 (by omega) (by omega) rfl rfl ?_
          refine lx_loadm 14 U32 0 rfl rfl Tryd.isAgg49 (by rw [RRs_len _ _ (RK_len p k)]; omega) rfl rfl ?_
          refine lx_assign rfl rfl rfl ?_
          refine lx_assign rfl rfl rfl ?_
          refine lx_nil ?_
          refine xs_drawn (E := EE [46]) mixed (by kernel_rfl) (by kernel_rfl) (by kernel_rfl) ?_
          refine lx_ia0 (7) rfl rfl Tryd.underlying50 Tryd.sizeOf49 (by omega) (by omega) rfl rfl ?_
          refine lx_loadm 14 U32 0 rfl rfl Tryd.isAgg49 (by rw [RRs_len _ _ (RK_len p k)]; omega) rfl rfl ?_
          refine lx_move rfl rfl rfl ?_
          refine lx_call rfl rfl ent47 (turn_pure _ _ (by omega) (by omega)) rfl rfl ?_
          refine lx_move rfl rfl rfl ?_
          refine lx_call rfl rfl ent47 (turn_pure _ _ (by omega) (by omega)) rfl rfl ?_
          refine lx_bin rfl rfl (fun _ => rfl) (fun _ => bin_xor_u32 _ _ _) rfl rfl ?_
          refine lx_move rfl rfl rfl ?_
          refine lx_call rfl rfl ent47 (turn_pure _ _ (by omega) (by omega)) rfl rfl ?_
          refine lx_bin rfl rfl (fun _ => rfl) (fun _ => bin_xor_u32 _ _ _) rfl rfl ?_
          refine lx_bin rfl rfl (fun _ => rfl) (fun _ => bin_add_u32 _ _ _) rfl rfl ?_
          refine lx_move rfl rfl rfl ?_
          refine lx_ia0 (5) rfl rfl Tryd.underlying50 Tryd.sizeOf49 (by omega) (by omega) rfl rfl ?_
          refine lx_loadm 14 U32 0 rfl rfl Tryd.isAgg49 (by rw [RRs_len _ _ (RK_len p k)]; omega) rfl rfl ?_
          refine lx_bin rfl rfl (fun _ => rfl) (fun _ => bin_and_u32 _ _ _) rfl rfl ?_
          refine lx_move rfl rfl rfl ?_
          refine lx_un rfl (fun _ => un_xor_u32 _) rfl rfl ?_
          refine lx_ia0 (6) rfl rfl Tryd.underlying50 Tryd.sizeOf49 (by omega) (by omega) rfl rfl ?_
          refine lx_loadm 14 U32 0 rfl rfl Tryd.isAgg49 (by rw [RRs_len _ _ (RK_len p k)]; omega) rfl rfl ?_
          refine lx_bin rfl rfl (fun _ => rfl) (fun _ => bin_and_u32 _ _ _) rfl rfl ?_
          refine lx_bin rfl rfl (fun _ => rfl) (fun _ => bin_xor_u32 _ _ _) rfl rfl ?_
          refine lx_bin rfl rfl (fun _ => rfl) (fun _ => bin_add_u32 _ _ _) rfl rfl ?_
          refine lx_move rfl rfl rfl ?_
          refine lx_move rfl rfl rfl ?_
          refine lx_nilc rfl rfl rfl ?_
          refine lx_fak 8 rfl Tryd.underlying53 rfl Tryd.sizeOf51 (by decide) rfl rfl rfl ?_
          refine lx_ia1 (r) rfl rfl Tryd.underlying51 Tryd.sizeOf49 (by omega) (by omega) rfl rfl ?_
          refine lx_load rfl Tryd.isAgg49 (hp_old (B := pl w) ((ho.cell (8 + r)).trans (gm U32 MK 0 (8 + r) (by rw [MK_len]; omega))) (fun h => h)) rfl rfl ?_
          refine lx_bin rfl rfl (fun _ => rfl) (fun _ => bin_add_u32 _ _ _) rfl rfl ?_
          refine lx_move rfl rfl rfl ?_
          refine lx_ia0 (r) rfl rfl Tryd.underlying51 Tryd.sizeOf49 (by omega) (by omega) rfl rfl ?_
          refine lx_loadm 8 U32 0 rfl rfl Tryd.isAgg49 (by rw [V2_len]; omega) rfl rfl ?_
          refine lx_bin rfl rfl (fun _ => rfl) (fun _ => bin_add_u32 _ _ _) rfl rfl ?_
          refine lx_assign rfl rfl rfl ?_
          refine lx_nil ?_
          refine xs_drawn (E := EE [46]) mixed (by kernel_rfl) (by kernel_rfl) (by kernel_rfl) ?_
          refine lx_move rfl rfl rfl ?_
          refine lx_call rfl rfl ent47 (turn_pure _ _ (by omega) (by omega)) rfl rfl ?_
          refine lx_move rfl rfl rfl ?_
          refine lx_call rfl rfl ent47 (turn_pure _ _ (by omega) (by omega)) rfl rfl ?_
          refine lx_bin rfl rfl (fun _ => rfl) (fun _ => bin_xor_u32 _ _ _) rfl rfl ?_
          refine lx_move rfl rfl rfl ?_
          refine lx_call rfl rfl ent47 (turn_pure _ _ (by omega) (by omega)) rfl rfl ?_
          refine lx_bin rfl rfl (fun _ => rfl) (fun _ => bin_xor_u32 _ _ _) rfl rfl ?_
          refine lx_move rfl rfl rfl ?_
          refine lx_ia0 (1) rfl rfl Tryd.underlying50 Tryd.sizeOf49 (by omega) (by omega) rfl rfl ?_
          refine lx_loadm 14 U32 0 rfl rfl Tryd.isAgg49 (by rw [RRs_len _ _ (RK_len p k)]; omega) rfl rfl ?_
          refine lx_bin rfl rfl (fun _ => rfl) (fun _ => bin_and_u32 _ _ _) rfl rfl ?_
          refine lx_move rfl rfl rfl ?_
          refine lx_ia0 (2) rfl rfl Tryd.underlying50 Tryd.sizeOf49 (by omega) (by omega) rfl rfl ?_
          refine lx_loadm 14 U32 0 rfl rfl Tryd.isAgg49 (by rw [RRs_len _ _ (RK_len p k)]; omega) rfl rfl ?_
          refine lx_bin rfl rfl (fun _ => rfl) (fun _ => bin_and_u32 _ _ _) rfl rfl ?_
          refine lx_bin rfl rfl (fun _ => rfl) (fun _ => bin_xor_u32 _ _ _) rfl rfl ?_
          refine lx_ia0 (1) rfl rfl Tryd.underlying50 Tryd.sizeOf49 (by omega) (by omega) rfl rfl ?_
          refine lx_loadm 14 U32 0 rfl rfl Tryd.isAgg49 (by rw [RRs_len _ _ (RK_len p k)]; omega) rfl rfl ?_
          refine lx_ia0 (2) rfl rfl Tryd.underlying50 Tryd.sizeOf49 (by omega) (by omega) rfl rfl ?_
          refine lx_loadm 14 U32 0 rfl rfl Tryd.isAgg49 (by rw [RRs_len _ _ (RK_len p k)]; omega) rfl rfl ?_
          refine lx_bin rfl rfl (fun _ => rfl) (fun _ => bin_and_u32 _ _ _) rfl rfl ?_
          refine lx_bin rfl rfl (fun _ => rfl) (fun _ => bin_xor_u32 _ _ _) rfl rfl ?_
          refine lx_bin rfl rfl (fun _ => rfl) (fun _ => bin_add_u32 _ _ _) rfl rfl ?_
          refine lx_assign rfl rfl rfl ?_
          refine lx_nil ?_
          refine x_plain (E := EE [46]) ?_
          refine lx_move rfl rfl rfl ?_
          refine lx_move rfl rfl rfl ?_
          refine lx_bin rfl rfl (fun _ => rfl) (fun _ => bin_add_u32 _ _ _) rfl rfl ?_
          refine lx_ia0 (0) rfl rfl Tryd.underlying50 Tryd.sizeOf49 (by omega) (by omega) rfl rfl ?_
          refine lx_loadm 14 U32 0 rfl rfl Tryd.isAgg49 (by rw [RRs_len _ _ (RK_len p k)]; omega) rfl rfl ?_
          refine lx_ia0 (1) rfl rfl Tryd.underlying50 Tryd.sizeOf49 (by omega) (by omega) rfl rfl ?_
          refine lx_loadm 14 U32 0 rfl rfl Tryd.isAgg49 (by rw [RRs_len _ _ (RK_len p k)]; omega) rfl rfl ?_
          refine lx_ia0 (2) rfl rfl Tryd.underlying50 Tryd.sizeOf49 (by omega) (by omega) rfl rfl ?_
          refine lx_loadm 14 U32 0 rfl rfl Tryd.isAgg49 (by rw [RRs_len _ _ (RK_len p k)]; omega) rfl rfl ?_
          refine lx_ia0 (3) rfl rfl Tryd.underlying50 Tryd.sizeOf49 (by omega) (by omega) rfl rfl ?_
          refine lx_loadm 14 U32 0 rfl rfl Tryd.isAgg49 (by rw [RRs_len _ _ (RK_len p k)]; omega) rfl rfl ?_
          refine lx_move rfl rfl rfl ?_
          refine lx_bin rfl rfl (fun _ => rfl) (fun _ => bin_add_u32 _ _ _) rfl rfl ?_
          refine lx_ia0 (4) rfl rfl Tryd.underlying50 Tryd.sizeOf49 (by omega) (by omega) rfl rfl ?_
          refine lx_loadm 14 U32 0 rfl rfl Tryd.isAgg49 (by rw [RRs_len _ _ (RK_len p k)]; omega) rfl rfl ?_
          refine lx_ia0 (5) rfl rfl Tryd.underlying50 Tryd.sizeOf49 (by omega) (by omega) rfl rfl ?_
          refine lx_loadm 14 U32 0 rfl rfl Tryd.isAgg49 (by rw [RRs_len _ _ (RK_len p k)]; omega) rfl rfl ?_
          refine lx_ia0 (6) rfl rfl Tryd.underlying50 Tryd.sizeOf49 (by omega) (by omega) rfl rfl ?_
          refine lx_loadm 14 U32 0 rfl rfl Tryd.isAgg49 (by rw [RRs_len _ _ (RK_len p k)]; omega) rfl rfl ?_
          refine lx_buildr (n := 8) rfl rfl Tryd.underlying50 Tryd.sizeOf49 Tryd.zeroValue50 rfl rfl rfl rfl ?_
          refine lx_storea 14 hGF rfl rfl rfl Tryd.sizeOf50 rfl (by rw [List.length_map, RRs_len _ _ (RK_len p k)]) rfl rfl ?_
          refine lx_nil ?_
          refine x_plain (E := EE [46]) ?_
          refine lx_move rfl rfl rfl ?_
          refine lx_bin rfl rfl (fun _ => rfl) (fun _ => bin_add_i _ _ _ (by unfold inI; omega)) rfl rfl ?_
          refine lx_assign rfl rfl rfl ?_
          refine lx_nil ?_
          repeat (refine kblk_n ?_)
          refine kseq_n ?_
          exact ⟨rfl, ⟨r + 1, by omega⟩, _, by show 64 - (r + 1) < 64 - r; omega, rfl, ⟨rfl, rfl, rfl, rfl, rfl, rfl, rfl, rfl, trivial⟩, ⟨rfl, rfl, rfl, rfl, rfl, trivial⟩⟩
        · obtain rfl : r = 64 := by simp at hc; omega
          refine x_exit ?_
          refine xs_plain (E := EE [46]) ?_
          refine lx_assign rfl rfl rfl ?_
          refine lx_nil ?_
          refine x_block ?_
          refine x_for (ι := { t : Nat // t ≤ 8 }) (fun x => [(0, .pointer (some ⟨bm, 0, none⟩)), (4, .pointer (some ⟨b4, 0, none⟩)), (5, .pointer (some ⟨b5, 0, none⟩)), (6, .slice (some ⟨b6, 0, none⟩) p.length cap6), (7, I ((64 * k : Nat) : Int)), (8, .pointer (some ⟨b8, 0, none⟩)), (14, .pointer (some ⟨b14, 0, none⟩)), (20, I (x.1 : Int))]) (fun x => [(4, b4, (List.replicate 32 0#8).map U8, 22), (6, b6, p.map U8 ++ tail, 5), (5, b5, (HAs (RK p k) (RRs (RK p k) (V2 p (64 * k) 48) 64) x.1).map U32, 50), (14, b14, (RRs (RK p k) (V2 p (64 * k) 48) 64).map U32, 50)]) (fun x => 8 - x.1) ⟨0, by omega⟩ hGF ⟨rfl, rfl, rfl, rfl, rfl, rfl, rfl, rfl, trivial⟩ ⟨rfl, rfl, rfl, rfl, trivial⟩ ?_
          rintro ⟨t, ht⟩
          dsimp only
          refine x_seq ?_
          refine xs_plain (E := EE [46]) ?_
          refine lx_move rfl rfl rfl ?_
          refine lx_bin rfl rfl (fun _ => rfl) (fun _ => bin_lss_i _ _ _) rfl rfl ?_
          refine lx_nil ?_
          refine x_if rfl (fun hc => ?_) (fun hc => ?_)
          · simp only [decide_eq_true_eq] at hc
            refine x_skip ?_
            refine x_seq ?_
            refine x_block ?_
            refine x_drawn (E := EE [46]) mixed (by kernel_rfl) (by kernel_rfl) (by kernel_rfl) ?_
            refine lx_move rfl rfl rfl ?_
            refine lx_ia0 (t) rfl rfl Tryd.underlying50 Tryd.sizeOf49 (by omega) (by omega) rfl rfl ?_
            refine lx_loadm 5 U32 0 rfl rfl Tryd.isAgg49 (by rw [HAs_len, RK_len]; omega) rfl rfl ?_
            refine lx_move rfl rfl rfl ?_
            refine lx_ia0 (t) rfl rfl Tryd.underlying50 Tryd.sizeOf49 (by omega) (by omega) rfl rfl ?_
            refine lx_loadm 14 U32 0 rfl rfl Tryd.isAgg49 (by rw [RRs_len _ _ (RK_len p k)]; omega) rfl rfl ?_
            refine lx_bin rfl rfl (fun _ => rfl) (fun _ => bin_add_u32 _ _ _) rfl rfl ?_
            refine lx_ia0 (t) rfl rfl Tryd.underlying50 Tryd.sizeOf49 (by omega) (by omega) rfl rfl ?_
            refine lx_storem 5 U32 hGF rfl rfl rfl Tryd.sizeOf49 rfl (by rw [HAs_len, RK_len]; omega) rfl ?_
            refine lx_nil ?_
            refine x_plain (E := EE [46]) ?_
            refine lx_move rfl rfl rfl ?_
            refine lx_bin rfl rfl (fun _ => rfl) (fun _ => bin_add_i _ _ _ (by unfold inI; omega)) rfl rfl ?_
            refine lx_assign rfl rfl rfl ?_
            refine lx_nil ?_
            repeat (refine kblk_n ?_)
            refine kseq_n ?_
            exact ⟨rfl, ⟨t + 1, by omega⟩, _, by show 8 - (t + 1) < 8 - t; omega, rfl, ⟨rfl, rfl, rfl, rfl, rfl, rfl, rfl, rfl, trivial⟩, ⟨rfl, rfl, rfl, rfl, trivial⟩⟩
          · obtain rfl : t = 8 := by simp at hc; omega
            refine x_exit ?_
            refine x_plain (E := EE [46]) ?_
            refine lx_move rfl rfl rfl ?_
            refine lx_bin rfl rfl (fun _ => rfl) (fun _ => bin_add_i _ _ _ (by unfold inI; omega)) rfl rfl ?_
            refine lx_assign rfl rfl rfl ?_
            refine lx_nil ?_
            repeat (refine kblk_n ?_)
            refine kseq_n ?_
            exact ⟨rfl, ⟨k + 1, by omega⟩, _, by show p.length - (k + 1) < p.length - k; omega, rfl, ⟨rfl, rfl, rfl, rfl, rfl, trivial⟩, ⟨rfl, rfl, rfl, trivial⟩⟩
  · simp only [decide_eq_false_iff_not] at hc
    obtain rfl : k = p.length / 64 := by omega
    clear hc hk
    refine x_exit ?_
    refine xs_plain (E := EE [46]) ?_
    refine lx_allocr 21 hGF zv22 rfl rfl ?_
    intro b21
    refine lx_nil ?_
    refine x_seq ?_
    refine xs_plain (E := EE [46]) ?_
    refine lx_assign rfl rfl rfl ?_
    refine lx_nil ?_
    refine x_block ?_
    refine x_for (ι := { i : Nat // i ≤ 32 }) (fun x => [(4, .pointer (some ⟨b4, 0, none⟩)), (5, .pointer (some ⟨b5, 0, none⟩)), (21, .pointer (some ⟨b21, 0, none⟩)), (22, I (x.1 : Int))]) (fun x => [(4, b4, (List.replicate 32 0#8).map U8, 22), (5, b5, (RK p (p.length / 64)).map U32, 50), (21, b21, (OD (RK p (p.length / 64)) x.1).map U8, 22)]) (fun x => 32 - x.1) ⟨0, by omega⟩ hGF ⟨rfl, rfl, rfl, rfl, trivial⟩ ⟨rfl, rfl, rfl, trivial⟩ ?_
    rintro ⟨i, hi⟩
    dsimp only
    refine x_seq ?_
    refine xs_plain (E := EE [46]) ?_
    refine lx_move rfl rfl rfl ?_
    refine lx_bin rfl rfl (fun _ => rfl) (fun _ => bin_lss_i _ _ _) rfl rfl ?_
    refine lx_nil ?_
    refine x_if rfl (fun hc => ?_) (fun hc => ?_)
    · simp only [decide_eq_true_eq] at hc
      refine x_skip ?_
      refine x_seq ?_
      refine x_block ?_
      refine x_plain (E := EE [46]) ?_
      refine lx_move rfl rfl rfl ?_
      refine lx_move rfl rfl rfl ?_
      refine lx_bin (v := I ((i / 4 : Nat) : Int)) rfl rfl (fun _ => rfl) (fun _ => bin_quo_i _ _ _ (by decide) (show inI ((i / 4 : Nat) : Int) by unfold inI; omega)) rfl rfl ?_
      refine lx_ia0 ((i / 4)) rfl rfl Tryd.underlying50 Tryd.sizeOf49 (by omega) (by omega) rfl rfl ?_
      refine lx_loadm 5 U32 0 rfl rfl Tryd.isAgg49 (by rw [RK_len]; omega) rfl rfl ?_
      refine lx_move rfl rfl rfl ?_
      refine lx_bin (v := I ((i % 4 : Nat) : Int)) rfl rfl (fun _ => rfl) (fun _ => bin_rem_i _ _ _ (by decide)) rfl rfl ?_
      refine lx_bin rfl rfl (fun _ => rfl) (fun _ => bin_mul_i _ _ _ (by unfold inI; omega)) rfl rfl ?_
      refine lx_bin rfl rfl (fun _ => rfl) (fun _ => bin_sub_i _ _ _ (by unfold inI; omega)) rfl rfl ?_
      refine lx_bin rfl rfl (fun _ => rfl) (fun _ => bin_shr_i_u32 _ _ _ (by omega)) rfl rfl ?_
      refine lx_conv rfl rfl (fun _ => conv_u32_u8 Tryd.underlying49 Tryd.underlying5 _) rfl rfl ?_
      refine lx_ia0 (i) rfl rfl Tryd.underlying22 Tryd.sizeOf5 (by omega) (by omega) rfl rfl ?_
      refine lx_storem 21 U8 hGF rfl rfl rfl Tryd.sizeOf5 rfl (by rw [OD_len]; omega) rfl ?_
      refine lx_nil ?_
      refine x_plain (E := EE [46]) ?_
      refine lx_move rfl rfl rfl ?_
      refine lx_bin rfl rfl (fun _ => rfl) (fun _ => bin_add_i _ _ _ (by unfold inI; omega)) rfl rfl ?_
      refine lx_assign rfl rfl rfl ?_
      refine lx_nil ?_
      repeat (refine kblk_n ?_)
      refine kseq_n ?_
      exact ⟨rfl, ⟨i + 1, by omega⟩, _, by show 32 - (i + 1) < 32 - i; omega, rfl, ⟨rfl, rfl, rfl, rfl, trivial⟩, ⟨rfl, rfl, rfl, trivial⟩⟩
    · obtain rfl : i = 32 := by simp at hc; omega
      refine x_exit ?_
      refine xs_plain (E := EE [46]) ?_
      refine lx_loada 21 rfl rfl Tryd.isAgg22 Tryd.sizeOf22 (by rw [List.length_map, OD_len]) rfl rfl ?_
      refine lx_storea 4 hGF rfl rfl rfl Tryd.sizeOf22 (by rw [List.length_map, OD_len]) (by rw [List.length_map, List.length_replicate]) (one_u8 _) rfl ?_
      refine lx_nil ?_
      refine x_ret ?_
      repeat (first | refine kseq_ret ?_ | refine kblk_ret ?_)
      exact kret_own 4 rfl rfl rfl Tryd.isAgg22 Tryd.sizeOf22 (by rw [List.length_map, OD_len]) (fun w hw => ⟨rfl, hp_below hw⟩)
end Sh
end Go.Proofs.YtdkkipjcmflclaaDoor
