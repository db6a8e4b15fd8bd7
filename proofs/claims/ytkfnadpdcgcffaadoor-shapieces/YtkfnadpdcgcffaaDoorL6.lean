/-
  The walk of the law ShaPieces.
-/
import Derived.Test.YtkfnadpdcgcffaaDoorK4
import Derived.Test.YtkfnadpdcgcffaaDoorE15
namespace Go.Proofs.YtkfnadpdcgcffaaDoor
open Go.RowKit
set_option maxRecDepth 100000
set_option maxHeartbeats 2000000
theorem write_len (T bs : List (BitVec 8)) (bh : Nat) (st : List (BitVec 32)) (rs : List (BitVec 8)) (n : BitVec 64) (hi : HInv T st rs n) (hT : (T ++ bs).length < 9223372036854775808) (a : Option Addr) (len cap : Nat) (hlen : bs.length = len) (hcap : len ≤ cap) (w : World) (hw : Gt w) (ho : OwnB w bh (hc st rs n) 41) (hbh : 1 ≤ bh) (hby : BytesAt w a bs) (hne : bs ≠ [] → ∀ ad, a = some ad → ad.block ≠ bh) :
    Calls Tryd.prog 19 [.pointer (some ⟨bh, 0, none⟩), .slice a len cap].toArray w (fun e w' => e = .returned (.tuple #[]) ∧ Mod bh w w' ∧ ∃ st' rs' n', HInv (T ++ bs) st' rs' n' ∧ OwnB w' bh (hc st' rs' n') 41) := by
  subst hlen; exact write_calls T bs bh st rs n hi hT a cap hcap w hw ho hbh hby hne
theorem sum_len (a : Option Addr) (len cap : Nat) (bs : List (BitVec 8)) (hlen : bs.length = len) (hcap : len ≤ cap) (w : World) (hw : Gt w) (hby : BytesAt w a bs) :
    Calls Tryd.prog 10 [.slice a len cap].toArray w (fun e w' => e = .returned (.agg ((SHA bs).map U8).toArray) ∧ Grow w w') := by
  subst hlen; exact sum_calls a cap bs hcap w hw hby
theorem copy_len (a : Option Addr) (len cap : Nat) (bs : List (BitVec 8)) (hlen : bs.length = len) (hl : len ≤ 70368744177664) (w : World) (hw : Gt w) (hby : BytesAt w a bs) :
    Calls Tryd.prog 9 [.slice a len cap].toArray w (fun e w' => ∃ sv, e = .returned sv ∧ Grow w w' ∧ Cln w w' bs sv) := by
  subst hlen; exact copy_calls a cap bs hl w hw hby
/-- Where the loop of ShaPieces stands. -/
structure PSt (bs cs : List (BitVec 8)) where
  (i p : Nat) (st : List (BitVec 32)) (rs : List (BitVec 8)) (n : BitVec 64) (st2 : List (BitVec 32)) (rs2 : List (BitVec 8)) (n2 : BitVec 64) (U : List (BitVec 8))
  hi : i ≤ cs.length
  hp : p ≤ bs.length
  h1 : HInv (bs.take p) st rs n
  h2 : HInv U st2 rs2 n2
  hU : U.length ≤ 256 * i
theorem bs_cut (bs : List (BitVec 8)) (p n : Nat) : bs.take p ++ (bs.drop p).take n = bs.take (p + n) := take_more bs p n

theorem pieces_calls (a : Option Addr) (cap : Nat) (bs : List (BitVec 8)) (hcap : bs.length ≤ cap) (a2 : Option Addr) (cap2 : Nat) (cs : List (BitVec 8)) (w : World) (hw : Gt w) (hby : BytesAt w a bs) (hbc : BytesAt w a2 cs) :
    Calls Tryd.prog 6 [.slice a bs.length cap, .slice a2 cs.length cap2].toArray w (fun e w' => e = .returned (.bool true) ∧ Grow w w') := by
  have hGF : BOk Gt (pl w) := gt_low.plain hw
  have hp0 : 0 < w.heap.size := gt_pos hw
  refine calls_of_X (G := Gt) Tryd.func6 rfl rfl (Hp (pl w) []) (hp_refl (pl w) trivial rides_true) (good_hp hGF) ?_
  have h3 : bs.length > 3000 ∨ (¬ bs.length > 3000 ∧ cs.length > 60) ∨ (¬ bs.length > 3000 ∧ ¬ cs.length > 60) := by omega
  rcases h3 with hA | ⟨hA, hB⟩ | ⟨hA, hB⟩
  · skip
    refine xs_plain (E := EE [9, 19, 20]) ?_
    refine lx_assign rfl rfl rfl ?_
    refine lx_nil ?_
    refine x_seq ?_
    refine xs_plain (E := EE [9, 19, 20]) ?_
    refine lx_call rfl rfl ent8 (known_pure) rfl rfl ?_
    refine lx_un (v := .bool false) rfl (fun _ => un_not _) rfl rfl ?_
    refine lx_nil ?_
    refine x_false rfl ?_
    refine x_skip ?_
    refine x_seq ?_
    refine xs_plain (E := EE [9, 19, 20]) ?_
    refine lx_move rfl rfl rfl ?_
    refine lx_len rfl (fun _ => len_slice Tryd.underlying22 _ _ _ _) rfl rfl ?_
    refine lx_bin (v := .bool true) rfl rfl (fun _ => rfl) (fun w => (bin_gtr_i _ _ _).trans (by rw [decide_eq_true (by omega : ((bs.length : Int) > 3000))])) rfl rfl ?_
    refine lx_move rfl rfl rfl ?_
    refine lx_skip rfl rfl rfl ?_
    refine lx_skip rfl rfl rfl ?_
    refine lx_skip rfl rfl rfl ?_
    refine lx_pick rfl rfl rfl rfl rfl ?_
    refine lx_nil ?_
    refine x_true rfl ?_
    refine xs_plain (E := EE [9, 19, 20]) ?_
    refine lx_assign rfl rfl rfl ?_
    refine lx_nil ?_
    refine x_ret ?_
    repeat (first | refine kseq_ret ?_ | refine kblk_ret ?_)
    exact kret_tmp rfl rfl (fun w hw => ⟨rfl, hp_below hw⟩)
  · skip
    refine xs_plain (E := EE [9, 19, 20]) ?_
    refine lx_assign rfl rfl rfl ?_
    refine lx_nil ?_
    refine x_seq ?_
    refine xs_plain (E := EE [9, 19, 20]) ?_
    refine lx_call rfl rfl ent8 (known_pure) rfl rfl ?_
    refine lx_un (v := .bool false) rfl (fun _ => un_not _) rfl rfl ?_
    refine lx_nil ?_
    refine x_false rfl ?_
    refine x_skip ?_
    refine x_seq ?_
    refine xs_plain (E := EE [9, 19, 20]) ?_
    refine lx_move rfl rfl rfl ?_
    refine lx_len rfl (fun _ => len_slice Tryd.underlying22 _ _ _ _) rfl rfl ?_
    refine lx_bin (v := .bool false) rfl rfl (fun _ => rfl) (fun w => (bin_gtr_i _ _ _).trans (by rw [decide_eq_false (by omega : ¬ ((bs.length : Int) > 3000))])) rfl rfl ?_
    refine lx_move rfl rfl rfl ?_
    refine lx_move rfl rfl rfl ?_
    refine lx_len rfl (fun _ => len_slice Tryd.underlying22 _ _ _ _) rfl rfl ?_
    refine lx_bin (v := .bool true) rfl rfl (fun _ => rfl) (fun w => (bin_gtr_i _ _ _).trans (by rw [decide_eq_true (by omega : ((cs.length : Int) > 60))])) rfl rfl ?_
    refine lx_pick rfl rfl rfl rfl rfl ?_
    refine lx_nil ?_
    refine x_true rfl ?_
    refine xs_plain (E := EE [9, 19, 20]) ?_
    refine lx_assign rfl rfl rfl ?_
    refine lx_nil ?_
    refine x_ret ?_
    repeat (first | refine kseq_ret ?_ | refine kblk_ret ?_)
    exact kret_tmp rfl rfl (fun w hw => ⟨rfl, hp_below hw⟩)
  · skip
    refine xs_plain (E := EE [9, 19, 20]) ?_
    refine lx_assign rfl rfl rfl ?_
    refine lx_nil ?_
    refine x_seq ?_
    refine xs_plain (E := EE [9, 19, 20]) ?_
    refine lx_call rfl rfl ent8 (known_pure) rfl rfl ?_
    refine lx_un (v := .bool false) rfl (fun _ => un_not _) rfl rfl ?_
    refine lx_nil ?_
    refine x_false rfl ?_
    refine x_skip ?_
    refine x_seq ?_
    refine xs_plain (E := EE [9, 19, 20]) ?_
    refine lx_move rfl rfl rfl ?_
    refine lx_len rfl (fun _ => len_slice Tryd.underlying22 _ _ _ _) rfl rfl ?_
    refine lx_bin (v := .bool false) rfl rfl (fun _ => rfl) (fun w => (bin_gtr_i _ _ _).trans (by rw [decide_eq_false (by omega : ¬ ((bs.length : Int) > 3000))])) rfl rfl ?_
    refine lx_move rfl rfl rfl ?_
    refine lx_move rfl rfl rfl ?_
    refine lx_len rfl (fun _ => len_slice Tryd.underlying22 _ _ _ _) rfl rfl ?_
    refine lx_bin (v := .bool false) rfl rfl (fun _ => rfl) (fun w => (bin_gtr_i _ _ _).trans (by rw [decide_eq_false (by omega : ¬ ((cs.length : Int) > 60))])) rfl rfl ?_
    refine lx_pick rfl rfl rfl rfl rfl ?_
    refine lx_nil ?_
    refine x_false rfl ?_
    refine x_skip ?_
    refine xs_plain (E := EE [9, 19, 20]) ?_
    refine lx_allocr 5 hGF zv41 rfl rfl ?_
    intro b5
    refine lx_allocr 6 hGF zv41 rfl rfl ?_
    intro b6
    refine lx_nil ?_
    refine xs_plain (E := EE [9, 19, 20]) ?_
    refine lx_assign rfl rfl rfl ?_
    refine lx_nil ?_
    refine x_seq ?_
    refine xs_plain (E := EE [9, 19, 20]) ?_
    refine lx_assign rfl rfl rfl ?_
    refine lx_nil ?_
    refine x_block ?_
    refine x_for (ι := PSt bs cs) (fun x => [(0, .slice a bs.length cap), (1, .slice a2 cs.length cap2), (5, .pointer (some ⟨b5, 0, none⟩)), (6, .pointer (some ⟨b6, 0, none⟩)), (7, I x.p), (8, I x.i)]) (fun x => [(5, b5, hc x.st x.rs x.n, 41), (6, b6, hc x.st2 x.rs2 x.n2, 41)]) (fun x => cs.length - x.i) ⟨0, 0, _, _, _, _, _, _, [], Nat.zero_le _, Nat.zero_le _, HInv.zero, HInv.zero, Nat.zero_le _⟩ hGF ⟨rfl, rfl, rfl, rfl, rfl, rfl, trivial⟩ ⟨rfl, rfl, trivial⟩ ?_
    intro x
    have c3 : (x.i < cs.length ∧ x.p < bs.length) ∨ (x.i < cs.length ∧ ¬ x.p < bs.length) ∨ ¬ x.i < cs.length := by omega
    have hpb := x.hp
    have hib := x.hi
    have hbd : BytesAt w (if cap = x.p then a else a.map (·.add (x.p * 1))) (bs.drop x.p) := by have := hby.cut x.p bs.length hcap; rwa [List.take_of_length_le (by rw [List.length_drop]; omega)] at this
    rcases c3 with ⟨hI, hP⟩ | ⟨hI, hP⟩ | hI
    · skip
      obtain ⟨y, hy⟩ : ∃ y, cs.getD x.i 0 = y := ⟨_, rfl⟩
      obtain ⟨ad2, rfl, hcell⟩ := hbc x.i (U8 y) (by rw [← hy]; exact gm U8 cs 0 x.i hI)
      have hy8 : y.toNat < 256 := y.isLt
      obtain ⟨nn, hnn⟩ : ∃ nn, min y.toNat (bs.length - x.p) = nn := ⟨_, rfl⟩
      obtain ⟨xs, hxs⟩ : ∃ xs, (bs.drop x.p).take nn = xs := ⟨_, rfl⟩
      have hxl : xs.length = nn := by rw [← hxs, List.length_take, List.length_drop]; omega
      have hxt : bs.take x.p ++ xs = bs.take (x.p + nn) := by rw [← hxs]; exact bs_cut bs x.p nn
      have hxb := hby.cut x.p nn hcap
      rw [hxs] at hxb
      refine x_seq ?_
      refine xs_plain (E := EE [9, 19, 20]) ?_
      refine lx_move rfl rfl rfl ?_
      refine lx_move rfl rfl rfl ?_
      refine lx_len rfl (fun _ => len_slice Tryd.underlying22 _ _ _ _) rfl rfl ?_
      refine lx_bin (v := .bool true) rfl rfl (fun _ => rfl) (fun w => (bin_lss_i _ _ _).trans (by rw [decide_eq_true (by omega : ((x.i : Int) < cs.length))])) rfl rfl ?_
      refine lx_move rfl rfl rfl ?_
      refine lx_move rfl rfl rfl ?_
      refine lx_move rfl rfl rfl ?_
      refine lx_len rfl (fun _ => len_slice Tryd.underlying22 _ _ _ _) rfl rfl ?_
      refine lx_bin (v := .bool true) rfl rfl (fun _ => rfl) (fun w => (bin_lss_i _ _ _).trans (by rw [decide_eq_true (by omega : ((x.p : Int) < bs.length))])) rfl rfl ?_
      refine lx_pick rfl rfl rfl rfl rfl ?_
      refine lx_nil ?_
      refine x_true rfl ?_
      refine x_skip ?_
      refine x_seq ?_
      refine x_block ?_
      refine xs_plain (E := EE [9, 19, 20]) ?_
      refine lx_move rfl rfl rfl ?_
      refine lx_move rfl rfl rfl ?_
      refine lx_isA x.i rfl rfl Tryd.underlying22 Tryd.sizeOf5 rfl hI rfl rfl ?_
      refine lx_load rfl Tryd.isAgg5 (hp_old (B := pl w) hcell (fun h => h)) rfl rfl ?_
      refine lx_conv rfl rfl (fun _ => conv_u8_i Tryd.underlying5 Tryd.underlying3 _) rfl rfl ?_
      refine lx_move rfl rfl rfl ?_
      refine lx_len rfl (fun _ => len_slice Tryd.underlying22 _ _ _ _) rfl rfl ?_
      refine lx_move rfl rfl rfl ?_
      refine lx_bin rfl rfl (fun _ => rfl) (fun _ => bin_sub_i _ _ _ (by unfold inI; omega)) rfl rfl ?_
      refine lx_min (z := (nn : Int)) rfl rfl (by split <;> omega) rfl rfl ?_
      refine lx_assign rfl rfl rfl ?_
      refine lx_nil ?_
      refine xs_plain (E := EE [9, 19, 20]) ?_
      refine lx_move rfl rfl rfl ?_
      refine lx_move rfl rfl rfl ?_
      refine lx_move rfl rfl rfl ?_
      refine lx_move rfl rfl rfl ?_
      refine lx_bin rfl rfl (fun _ => rfl) (fun _ => bin_add_i _ _ _ (by unfold inI; omega)) rfl rfl ?_
      refine lx_slsl (l := x.p) (h' := x.p + nn) rfl Tryd.underlying22 Tryd.sizeOf5 rfl rfl ⟨by omega, by omega⟩ rfl rfl ?_
      refine lx_callE rfl rfl ent9 rfl rfl (fun w' hw' => (copy_len _ _ _ xs (by rw [hxl]; omega) (by omega) w' (hGF.g _ _ _ hw') (hxb.grow (hp_below hw'))).mono fun e w'' h => ?_)
      obtain ⟨sv, rfl, hg, hcl⟩ := h
      rcases hcl with ⟨h0, rfl⟩ | ⟨b, c, cap1, rfl, hb, hob, hcc, hle, htk⟩
      · skip
        refine ⟨_, _, rfl, good_hp hGF, hw'.grow rides_true hg, ?_⟩
        clear hw' hg
        refine lx_assign rfl rfl rfl ?_
        refine lx_nil ?_
        refine xs_plain (E := EE [9, 19, 20]) ?_
        refine lx_move rfl rfl rfl ?_
        refine lx_callE rfl rfl ent19 rfl rfl (fun w' hw' => (write_len (bs.take x.p) xs b5 x.st x.rs x.n x.h1 (by rw [hxt, List.length_take]; omega) _ _ _ (by rw [h0]; rfl) (Nat.le_refl _) w' (hGF.g _ _ _ hw') (hw'.own 5 _ _ _ rfl).1 (Nat.le_trans hp0 ((hw'.own 5 _ _ _ rfl).2.elim id False.elim)) (h0 ▸ bytes_nil w' none) (fun _ ad e => by cases e)).mono fun e w'' h => ?_)
        obtain ⟨rfl, hm, st1, rs1, n1, hi1, ho⟩ := h
        rw [hxt] at hi1
        refine ⟨_, _, rfl, good_hp hGF, hw'.mod rides_true (n := 5) rfl hm ho, ?_⟩
        clear hw' hm ho
        refine lx_nil ?_
        refine xs_plain (E := EE [9, 19, 20]) ?_
        refine lx_move rfl rfl rfl ?_
        refine lx_callE rfl rfl ent20 rfl rfl (fun w' hw' => (spoil_nil w' (hGF.g _ _ _ hw')).mono fun e w'' h => ?_)
        obtain ⟨rfl, hg⟩ := h
        refine ⟨_, _, rfl, good_hp hGF, hw'.grow rides_true hg, ?_⟩
        clear hw' hg
        refine lx_nil ?_
        refine xs_plain (E := EE [9, 19, 20]) ?_
        refine lx_move rfl rfl rfl ?_
        refine lx_move rfl rfl rfl ?_
        refine lx_slsl (l := 0) (h' := nn) rfl Tryd.underlying22 Tryd.sizeOf5 rfl rfl ⟨by omega, by omega⟩ rfl rfl ?_
        refine lx_callE rfl rfl ent19 rfl rfl (fun w' hw' => (write_len x.U (bs.take nn) b6 x.st2 x.rs2 x.n2 x.h2 (by have := x.hU; rw [List.length_append, List.length_take]; omega) _ _ _ (by rw [List.length_take]; omega) (by omega) w' (hGF.g _ _ _ hw') (hw'.own 6 _ _ _ rfl).1 (Nat.le_trans hp0 ((hw'.own 6 _ _ _ rfl).2.elim id False.elim)) ((hby.cut 0 nn hcap).grow (hp_below hw')) (fun hn ad e => Nat.ne_of_lt (Nat.lt_of_lt_of_le ((hby.cut 0 nn hcap).lt hn ad e) ((hw'.own 6 _ _ _ rfl).2.elim id False.elim)))).mono fun e w'' h => ?_)
        obtain ⟨rfl, hm, st3, rs3, n3, hi3, ho⟩ := h
        refine ⟨_, _, rfl, good_hp hGF, hw'.mod rides_true (n := 6) rfl hm ho, ?_⟩
        clear hw' hm ho
        refine lx_nil ?_
        refine xs_plain (E := EE [9, 19, 20]) ?_
        refine lx_move rfl rfl rfl ?_
        refine lx_move rfl rfl rfl ?_
        refine lx_bin rfl rfl (fun _ => rfl) (fun _ => bin_add_i _ _ _ (by unfold inI; omega)) rfl rfl ?_
        refine lx_assign rfl rfl rfl ?_
        refine lx_nil ?_
        refine xs_drawn (E := EE [9, 19, 20]) mixed (by kernel_rfl) (by kernel_rfl) (by kernel_rfl) ?_
        refine lx_callC rfl rfl ent21 (fun w' hw' hG => hsum_calls (bs.take (x.p + nn)) b5 st1 rs1 n1 hi1 w' hG (hw'.own 5 _ _ _ rfl).1) rfl rfl ?_
        refine lx_move rfl rfl rfl ?_
        refine lx_move rfl rfl rfl ?_
        refine lx_slsl (l := 0) (h' := x.p + nn) rfl Tryd.underlying22 Tryd.sizeOf5 rfl rfl ⟨by omega, by omega⟩ rfl rfl ?_
        refine lx_callC rfl rfl ent10 (fun w' hw' hG => sum_len _ _ _ (bs.take (x.p + nn)) (by rw [List.length_take]; omega) (by omega) w' hG ((hby.cut 0 (x.p + nn) hcap).grow (hp_below hw'))) rfl rfl ?_
        refine lx_bin (v := .bool false) rfl rfl (fun w => eqg25 _ _ _ _ _ w) (fun w => bin_ne_row Tryd.underlying25 Tryd.underlying5 Tryd.sizeOf5 Tryd.isAgg5 (SHA (bs.take (x.p + nn))) (SHA_len _) w) rfl rfl ?_
        refine lx_nil ?_
        refine x_false rfl ?_
        refine x_skip ?_
        refine x_plain (E := EE [9, 19, 20]) ?_
        refine lx_move rfl rfl rfl ?_
        refine lx_bin rfl rfl (fun _ => rfl) (fun _ => bin_add_i _ _ _ (by unfold inI; omega)) rfl rfl ?_
        refine lx_assign rfl rfl rfl ?_
        refine lx_nil ?_
        repeat (refine kblk_n ?_)
        refine kseq_n ?_
        exact ⟨rfl, ⟨x.i + 1, x.p + nn, st1, rs1, n1, st3, rs3, n3, x.U ++ bs.take nn, by omega, by omega, hi1, hi3, by have := x.hU; rw [List.length_append, List.length_take]; omega⟩, _, by show cs.length - (x.i + 1) < cs.length - x.i; omega, rfl, ⟨rfl, rfl, rfl, rfl, rfl, rfl, trivial⟩, ⟨rfl, rfl, trivial⟩⟩
      · skip
        refine ⟨_, _, rfl, good_hp hGF, hw'.news rides_true hg [(10, b, c, 5)] ?_ inj_one, ?_⟩
        · intro n' b' c' t' hl
          rcases lkB_cons hl with ⟨_, e⟩ | ⟨_, hl⟩
          · cases e; exact ⟨hb, hob⟩
          · cases hl
        obtain ⟨tail, rfl⟩ : ∃ tail, c = xs.map U8 ++ tail := ⟨c.drop xs.length, by rw [← htk, List.take_append_drop]⟩
        clear hw' hg hb hob
        refine lx_assign rfl rfl rfl ?_
        refine lx_nil ?_
        refine xs_plain (E := EE [9, 19, 20]) ?_
        refine lx_move rfl rfl rfl ?_
        refine lx_callE rfl rfl ent19 rfl rfl (fun w' hw' => (write_len (bs.take x.p) xs b5 x.st x.rs x.n x.h1 (by rw [hxt, List.length_take]; omega) _ _ _ rfl hle w' (hGF.g _ _ _ hw') (hw'.own 5 _ _ _ rfl).1 (Nat.le_trans hp0 ((hw'.own 5 _ _ _ rfl).2.elim id False.elim)) (BytesAt.range (hp_range (n := 10) rfl (fun j v hv => by rw [Nat.zero_add]; exact (List.getElem?_append_left (by rcases Nat.lt_or_ge j (xs.map U8).length with h | h; exact h; rw [List.getElem?_eq_none h] at hv; cases hv)).trans hv) w' hw')) (fun _ ad e => by cases e; exact own_ne (hw'.own 10 _ _ _ rfl).1 (hw'.own 5 _ _ _ rfl).1 (by decide))).mono fun e w'' h => ?_)
        obtain ⟨rfl, hm, st1, rs1, n1, hi1, ho⟩ := h
        rw [hxt] at hi1
        refine ⟨_, _, rfl, good_hp hGF, hw'.mod rides_true (n := 5) rfl hm ho, ?_⟩
        clear hw' hm ho
        refine lx_nil ?_
        refine xs_plain (E := EE [9, 19, 20]) ?_
        refine lx_move rfl rfl rfl ?_
        refine lx_callE rfl rfl ent20 rfl rfl (fun w' hw' => (spoil_calls b xs.length cap1 xs tail rfl (by omega) w' (hGF.g _ _ _ hw') (Nat.le_trans hp0 ((hw'.own 10 _ _ _ rfl).2.elim id False.elim)) (hw'.own 10 _ _ _ rfl).1).mono fun e w'' h => ?_)
        obtain ⟨rfl, hm, c', ho⟩ := h
        refine ⟨_, _, rfl, good_hp hGF, hw'.mod rides_true (n := 10) rfl hm ho, ?_⟩
        clear hw' hm ho
        refine lx_nil ?_
        refine xs_plain (E := EE [9, 19, 20]) ?_
        refine lx_move rfl rfl rfl ?_
        refine lx_move rfl rfl rfl ?_
        refine lx_slsl (l := 0) (h' := nn) rfl Tryd.underlying22 Tryd.sizeOf5 rfl rfl ⟨by omega, by omega⟩ rfl rfl ?_
        refine lx_callE rfl rfl ent19 rfl rfl (fun w' hw' => (write_len x.U (bs.take nn) b6 x.st2 x.rs2 x.n2 x.h2 (by have := x.hU; rw [List.length_append, List.length_take]; omega) _ _ _ (by rw [List.length_take]; omega) (by omega) w' (hGF.g _ _ _ hw') (hw'.own 6 _ _ _ rfl).1 (Nat.le_trans hp0 ((hw'.own 6 _ _ _ rfl).2.elim id False.elim)) ((hby.cut 0 nn hcap).grow (hp_below hw')) (fun hn ad e => Nat.ne_of_lt (Nat.lt_of_lt_of_le ((hby.cut 0 nn hcap).lt hn ad e) ((hw'.own 6 _ _ _ rfl).2.elim id False.elim)))).mono fun e w'' h => ?_)
        obtain ⟨rfl, hm, st3, rs3, n3, hi3, ho⟩ := h
        refine ⟨_, _, rfl, good_hp hGF, hw'.mod rides_true (n := 6) rfl hm ho, ?_⟩
        clear hw' hm ho
        refine lx_nil ?_
        refine xs_plain (E := EE [9, 19, 20]) ?_
        refine lx_move rfl rfl rfl ?_
        refine lx_move rfl rfl rfl ?_
        refine lx_bin rfl rfl (fun _ => rfl) (fun _ => bin_add_i _ _ _ (by unfold inI; omega)) rfl rfl ?_
        refine lx_assign rfl rfl rfl ?_
        refine lx_nil ?_
        refine xs_drawn (E := EE [9, 19, 20]) mixed (by kernel_rfl) (by kernel_rfl) (by kernel_rfl) ?_
        refine lx_callC rfl rfl ent21 (fun w' hw' hG => hsum_calls (bs.take (x.p + nn)) b5 st1 rs1 n1 hi1 w' hG (hw'.own 5 _ _ _ rfl).1) rfl rfl ?_
        refine lx_move rfl rfl rfl ?_
        refine lx_move rfl rfl rfl ?_
        refine lx_slsl (l := 0) (h' := x.p + nn) rfl Tryd.underlying22 Tryd.sizeOf5 rfl rfl ⟨by omega, by omega⟩ rfl rfl ?_
        refine lx_callC rfl rfl ent10 (fun w' hw' hG => sum_len _ _ _ (bs.take (x.p + nn)) (by rw [List.length_take]; omega) (by omega) w' hG ((hby.cut 0 (x.p + nn) hcap).grow (hp_below hw'))) rfl rfl ?_
        refine lx_bin (v := .bool false) rfl rfl (fun w => eqg25 _ _ _ _ _ w) (fun w => bin_ne_row Tryd.underlying25 Tryd.underlying5 Tryd.sizeOf5 Tryd.isAgg5 (SHA (bs.take (x.p + nn))) (SHA_len _) w) rfl rfl ?_
        refine lx_nil ?_
        refine x_false rfl ?_
        refine x_skip ?_
        refine x_plain (E := EE [9, 19, 20]) ?_
        refine lx_move rfl rfl rfl ?_
        refine lx_bin rfl rfl (fun _ => rfl) (fun _ => bin_add_i _ _ _ (by unfold inI; omega)) rfl rfl ?_
        refine lx_assign rfl rfl rfl ?_
        refine lx_nil ?_
        repeat (refine kblk_n ?_)
        refine kseq_n ?_
        exact ⟨rfl, ⟨x.i + 1, x.p + nn, st1, rs1, n1, st3, rs3, n3, x.U ++ bs.take nn, by omega, by omega, hi1, hi3, by have := x.hU; rw [List.length_append, List.length_take]; omega⟩, _, by show cs.length - (x.i + 1) < cs.length - x.i; omega, rfl, ⟨rfl, rfl, rfl, rfl, rfl, rfl, trivial⟩, ⟨rfl, rfl, trivial⟩⟩
    · skip
      refine x_seq ?_
      refine xs_plain (E := EE [9, 19, 20]) ?_
      refine lx_move rfl rfl rfl ?_
      refine lx_move rfl rfl rfl ?_
      refine lx_len rfl (fun _ => len_slice Tryd.underlying22 _ _ _ _) rfl rfl ?_
      refine lx_bin (v := .bool true) rfl rfl (fun _ => rfl) (fun w => (bin_lss_i _ _ _).trans (by rw [decide_eq_true (by omega : ((x.i : Int) < cs.length))])) rfl rfl ?_
      refine lx_move rfl rfl rfl ?_
      refine lx_move rfl rfl rfl ?_
      refine lx_move rfl rfl rfl ?_
      refine lx_len rfl (fun _ => len_slice Tryd.underlying22 _ _ _ _) rfl rfl ?_
      refine lx_bin (v := .bool false) rfl rfl (fun _ => rfl) (fun w => (bin_lss_i _ _ _).trans (by rw [decide_eq_false (by omega : ¬ ((x.p : Int) < bs.length))])) rfl rfl ?_
      refine lx_pick rfl rfl rfl rfl rfl ?_
      refine lx_nil ?_
      refine x_false rfl ?_
      refine x_exit ?_
      refine xs_plain (E := EE [9, 19, 20]) ?_
      refine lx_move rfl rfl rfl ?_
      refine lx_move rfl rfl rfl ?_
      refine lx_slsl (l := x.p) (h' := bs.length) rfl Tryd.underlying22 Tryd.sizeOf5 rfl rfl ⟨x.hp, hcap⟩ rfl rfl ?_
      refine lx_callE rfl rfl ent19 rfl rfl (fun w' hw' => (write_len (bs.take x.p) (bs.drop x.p) b5 x.st x.rs x.n x.h1 (by rw [List.take_append_drop]; omega) _ _ _ List.length_drop (by omega) w' (hGF.g _ _ _ hw') (hw'.own 5 _ _ _ rfl).1 (Nat.le_trans hp0 ((hw'.own 5 _ _ _ rfl).2.elim id False.elim)) (hbd.grow (hp_below hw')) (fun hn ad e => Nat.ne_of_lt (Nat.lt_of_lt_of_le (hbd.lt hn ad e) ((hw'.own 5 _ _ _ rfl).2.elim id False.elim)))).mono fun e w'' h => ?_)
      obtain ⟨rfl, hm, st1, rs1, n1, hi1, ho⟩ := h
      rw [List.take_append_drop] at hi1
      refine ⟨_, _, rfl, good_hp hGF, hw'.mod rides_true (n := 5) rfl hm ho, ?_⟩
      clear hw' hm ho
      refine lx_nil ?_
      refine xs_plain (E := EE [9, 19, 20]) ?_
      refine lx_callC rfl rfl ent21 (fun w' hw' hG => hsum_calls bs b5 st1 rs1 n1 hi1 w' hG (hw'.own 5 _ _ _ rfl).1) rfl rfl ?_
      refine lx_move rfl rfl rfl ?_
      refine lx_callC rfl rfl ent10 (fun w' hw' hG => sum_calls _ _ bs hcap w' hG (hby.grow (hp_below hw'))) rfl rfl ?_
      refine lx_bin (v := .bool true) rfl rfl (fun w => eqg25 _ _ _ _ _ w) (fun w => bin_eq_row Tryd.underlying25 Tryd.underlying5 Tryd.sizeOf5 Tryd.isAgg5 (SHA bs) (SHA_len _) w) rfl rfl ?_
      refine lx_move rfl rfl rfl ?_
      refine lx_move rfl rfl rfl ?_
      refine lx_len rfl (fun _ => len_slice Tryd.underlying22 _ _ _ _) rfl rfl ?_
      refine lx_bin (v := .bool true) rfl rfl (fun _ => rfl) (fun w => (bin_leq_i _ _ _).trans (by rw [decide_eq_true (by omega : ((bs.length : Int) ≤ 1048576))])) rfl rfl ?_
      refine lx_pick rfl rfl rfl rfl rfl ?_
      refine lx_assign rfl rfl rfl ?_
      refine lx_nil ?_
      refine x_ret ?_
      repeat (first | refine kseq_ret ?_ | refine kblk_ret ?_)
      exact kret_tmp rfl rfl (fun w hw => ⟨rfl, hp_below hw⟩)
    · skip
      refine x_seq ?_
      refine xs_plain (E := EE [9, 19, 20]) ?_
      refine lx_move rfl rfl rfl ?_
      refine lx_move rfl rfl rfl ?_
      refine lx_len rfl (fun _ => len_slice Tryd.underlying22 _ _ _ _) rfl rfl ?_
      refine lx_bin (v := .bool false) rfl rfl (fun _ => rfl) (fun w => (bin_lss_i _ _ _).trans (by rw [decide_eq_false (by omega : ¬ ((x.i : Int) < cs.length))])) rfl rfl ?_
      refine lx_move rfl rfl rfl ?_
      refine lx_skip rfl rfl rfl ?_
      refine lx_skip rfl rfl rfl ?_
      refine lx_skip rfl rfl rfl ?_
      refine lx_skip rfl rfl rfl ?_
      refine lx_pick rfl rfl rfl rfl rfl ?_
      refine lx_nil ?_
      refine x_false rfl ?_
      refine x_exit ?_
      refine xs_plain (E := EE [9, 19, 20]) ?_
      refine lx_move rfl rfl rfl ?_
      refine lx_move rfl rfl rfl ?_
      refine lx_slsl (l := x.p) (h' := bs.length) rfl Tryd.underlying22 Tryd.sizeOf5 rfl rfl ⟨x.hp, hcap⟩ rfl rfl ?_
      refine lx_callE rfl rfl ent19 rfl rfl (fun w' hw' => (write_len (bs.take x.p) (bs.drop x.p) b5 x.st x.rs x.n x.h1 (by rw [List.take_append_drop]; omega) _ _ _ List.length_drop (by omega) w' (hGF.g _ _ _ hw') (hw'.own 5 _ _ _ rfl).1 (Nat.le_trans hp0 ((hw'.own 5 _ _ _ rfl).2.elim id False.elim)) (hbd.grow (hp_below hw')) (fun hn ad e => Nat.ne_of_lt (Nat.lt_of_lt_of_le (hbd.lt hn ad e) ((hw'.own 5 _ _ _ rfl).2.elim id False.elim)))).mono fun e w'' h => ?_)
      obtain ⟨rfl, hm, st1, rs1, n1, hi1, ho⟩ := h
      rw [List.take_append_drop] at hi1
      refine ⟨_, _, rfl, good_hp hGF, hw'.mod rides_true (n := 5) rfl hm ho, ?_⟩
      clear hw' hm ho
      refine lx_nil ?_
      refine xs_plain (E := EE [9, 19, 20]) ?_
      refine lx_callC rfl rfl ent21 (fun w' hw' hG => hsum_calls bs b5 st1 rs1 n1 hi1 w' hG (hw'.own 5 _ _ _ rfl).1) rfl rfl ?_
      refine lx_move rfl rfl rfl ?_
      refine lx_callC rfl rfl ent10 (fun w' hw' hG => sum_calls _ _ bs hcap w' hG (hby.grow (hp_below hw'))) rfl rfl ?_
      refine lx_bin (v := .bool true) rfl rfl (fun w => eqg25 _ _ _ _ _ w) (fun w => bin_eq_row Tryd.underlying25 Tryd.underlying5 Tryd.sizeOf5 Tryd.isAgg5 (SHA bs) (SHA_len _) w) rfl rfl ?_
      refine lx_move rfl rfl rfl ?_
      refine lx_move rfl rfl rfl ?_
      refine lx_len rfl (fun _ => len_slice Tryd.underlying22 _ _ _ _) rfl rfl ?_
      refine lx_bin (v := .bool true) rfl rfl (fun _ => rfl) (fun w => (bin_leq_i _ _ _).trans (by rw [decide_eq_true (by omega : ((bs.length : Int) ≤ 1048576))])) rfl rfl ?_
      refine lx_pick rfl rfl rfl rfl rfl ?_
      refine lx_assign rfl rfl rfl ?_
      refine lx_nil ?_
      refine x_ret ?_
      repeat (first | refine kseq_ret ?_ | refine kblk_ret ?_)
      exact kret_tmp rfl rfl (fun w hw => ⟨rfl, hp_below hw⟩)
end Go.Proofs.YtkfnadpdcgcffaaDoor
