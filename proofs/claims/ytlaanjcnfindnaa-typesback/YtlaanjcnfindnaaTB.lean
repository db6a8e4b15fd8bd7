/-
  Bits as bytes, bytes as bits.
-/
import Derived.Test.YtlaanjcnfindnaaTA
namespace Go.Proofs.Ytlaanjcnfindnaa
open Go.RowKit
set_option maxRecDepth 100000
set_option maxHeartbeats 1000000

theorem ent92 : Enters Try.prog 92 := fun _ _ => by kernel_rfl
theorem ent94 : Enters Try.prog 94 := fun _ _ => by kernel_rfl
theorem ent32 : Enters Try.prog 32 := fun _ _ => by kernel_rfl
theorem ti4 : TI Try.prog 4 (.bool false) 1 1 := ti_mk (by kernel_rfl)
theorem made4 (m : Nat) : (madeCells (Value.bool false).cells (m * 1)).toList = List.replicate m (.bool false) := by
  have h := made8 m
  simp only [madeCells, Value.cells] at h ⊢
  apply List.ext_getElem?
  intro i
  by_cases hi : i < m
  · simp [hi, Nat.mod_one]
  · simp [hi]
/-- The first j bits as bytes. -/
def pb (l : List Bool) : Nat → List (BitVec 8)
  | 0 => List.replicate (szB l.length) 0#8
  | j + 1 => bif l.getD j false then (pb l j).set (j / 8) ((pb l j).getD (j / 8) 0#8 ||| 1#8 <<< (j % 8)) else pb l j
theorem pb_len (l : List Bool) : ∀ j, (pb l j).length = szB l.length
  | 0 => by simp [pb]
  | j + 1 => by unfold pb; cases l.getD j false <;> simp [pb_len l j]
theorem pb_t {l : List Bool} {i k : Nat} (hk : k < 8) (h : l.getD (8 * i + k) false = true) : (pb l (8 * i + k)).set i ((pb l (8 * i + k)).getD i 0#8 ||| 1#8 <<< k) = pb l (8 * i + k + 1) := by
  conv => rhs; unfold pb
  rw [h, show (8 * i + k) / 8 = i from by omega, show (8 * i + k) % 8 = k from by omega]
  rfl
theorem pb_f {l : List Bool} {j : Nat} (h : l.getD j false = false) : pb l (j + 1) = pb l j := by
  conv => lhs; unfold pb
  rw [h]; rfl
theorem fr8_pb {w w' : World} {L : Hl} {n b J : Nat} {l : List Bool} (hJ : J = l.length) (hp : Hp (pl w) L w') (hl : lkB L n = some (b, (pb l J).map U8, 5)) : Fr8 w w' (.slice (some ⟨b, 0, none⟩) (szB l.length) (szB l.length)) (pb l l.length) := by
  subst hJ
  have := fr8_all hp hl
  rwa [pb_len] at this
def bitAt (bs : List (BitVec 8)) (t : Nat) : Bool := (bs.getD (t / 8) 0#8 >>> (t % 8)) &&& 1#8 == 1#8
/-- The first n bits. -/
def bt (bs : List (BitVec 8)) (n : Nat) : List Bool := (List.range n).map (bitAt bs)
theorem bt_len (bs : List (BitVec 8)) (n : Nat) : (bt bs n).length = n := by simp [bt]
theorem bt_s (bs : List (BitVec 8)) (n : Nat) : bt bs (n + 1) = bt bs n ++ [bitAt bs n] := by simp [bt, List.range_succ]
def cleanB (bs : List (BitVec 8)) (n : Nat) : Bool := decide (n % 8 = 0) || bs.getD (n / 8) 0#8 >>> (n % 8) == 0#8
def FrB (w w' : World) (v : Value) (xs : List Bool) : Prop := ∃ a cap, v = .slice a xs.length cap ∧ SlV 4 w' a cap (xs.map .bool) ∧ New w a
theorem frB_own {w w' : World} {L : Hl} {n : Nat} {a : Option Addr} {cap : Nat} {xs : List Bool} (h : OwnV L n 4 a cap (xs.map .bool)) (hp : Hp (pl w) L w') : FrB w w' (.slice a xs.length cap) xs :=
  ⟨a, cap, rfl, h.slv hp, fun ad e => by
    rcases h with ⟨rfl, _⟩ | ⟨b, c, rfl, hl, _⟩
    · cases e
    · cases e; exact (hp.own n b c 4 hl).2.elim id False.elim⟩
theorem frB_nil (w w' : World) : FrB w w' (.slice none 0 0) [] := ⟨none, 0, rfl, .inl ⟨rfl, rfl, rfl⟩, fun _ e => by cases e⟩
theorem atB {w : World} {a : Option Addr} {l : List Bool} (h : CellsAt w a (l.map .bool)) {k : Nat} (hk : k < l.length) : ∃ ad, a = some ad ∧ w.cell? (ad.add k) = some (.bool (l.getD k false)) :=
  h k _ (gm Value.bool l false k hk)
attribute [local simp] pb_len bt_len
theorem bob_calls (l : List Bool) (a : Option Addr) (cap : Nat) (hl : l.length ≤ 1000000) (w : World) (hw : Gt w) (hb : CellsAt w a (l.map .bool)) : Calls Try.prog 92 [.slice a l.length cap].toArray w (fun e w' => ∃ v, e = .returned v ∧ Grow w w' ∧ Fr8 w w' v (pb l l.length)) := by
  have hS : szB l.length ≤ 1000000 := by unfold szB; omega
  have hGF : BOk Gt (pl w) := gt_low.plain hw
  refine calls_of_X (G := Gt) Try.func92 rfl rfl (Hp (pl w) []) (hp_refl (pl w) trivial rides_true) (good_hp hGF) ?_
  refine xs_plain (E := EE []) ?_
  refine lx_assign rfl rfl rfl ?_
  refine lx_nil ?_
  refine x_scope ?_
  refine xs_plain (E := EE []) ?_
  refine lx_move rfl rfl rfl ?_
  refine lx_len rfl (fun _ => len_slice Try.underlying34 _ _ _ _) rfl rfl ?_
  refine lx_call rfl rfl ent93 (szo_pure l.length (by omega)) rfl rfl ?_
  refine lx_mkslC (l := (szB l.length)) (m := (szB l.length)) (c := (List.replicate ((szB l.length)) 0#8).map U8) 10 hGF rfl rfl (Nat.le_refl _) Try.underlying46 ti5 ⟨by omega, by omega, by omega⟩ (by rw [Nat.mul_one]; exact made8 _) rfl rfl ?_
  intro b10
  refine lx_assign rfl rfl rfl ?_
  refine lx_nil ?_
  refine x_seq ?_
  refine x_label ?_
  refine x_seq ?_
  refine xs_plain (E := EE []) ?_
  refine lx_move rfl rfl rfl ?_
  refine lx_len rfl (fun _ => len_slice Try.underlying46 _ _ _ _) rfl rfl ?_
  refine lx_move rfl rfl rfl ?_
  refine lx_nil ?_
  refine x_block ?_
  refine x_for (ι := { i : Nat // i ≤ szB l.length ∧ 8 * i ≤ l.length }) (fun x => [(0, .slice a l.length cap), (3, .slice (some ⟨b10, 0, none⟩) (szB l.length) (szB l.length)), (12, I ((szB l.length) : Nat)), (13, I (x.1 : Int))]) (fun x => [(10, b10, (pb l (8 * x.1)).map U8, 5)]) (fun x => szB l.length - x.1) ⟨0, Nat.zero_le _, Nat.zero_le _⟩ hGF ⟨rfl, rfl, rfl, rfl, trivial⟩ ⟨rfl, trivial⟩ ?_
  rintro ⟨i, hi, hi2⟩
  dsimp only
  refine xs_plain (E := EE []) ?_
  refine lx_bin rfl rfl (fun _ => rfl) (fun _ => bin_lss_i _ _ _) rfl rfl ?_
  refine lx_nil ?_
  refine x_seq ?_
  refine x_if rfl (fun hc => ?_) (fun hc => ?_)
  · have hi3 : i < szB l.length := by simp at hc; omega
    clear hc
    have hi4 : 8 * i < l.length := by unfold szB at hi3; omega
    refine x_skip ?_
    refine x_seq ?_
    refine x_block ?_
    refine xs_plain (E := EE []) ?_
    refine lx_move rfl rfl rfl ?_
    refine lx_assign rfl rfl rfl ?_
    refine lx_nil ?_
    refine xs_plain (E := EE []) ?_
    refine lx_move rfl rfl rfl ?_
    refine lx_nil ?_
    refine x_block ?_
    refine x_for (ι := { k : Nat // k ≤ 8 ∧ 8 * i + k ≤ l.length }) (fun x => [(0, .slice a l.length cap), (3, .slice (some ⟨b10, 0, none⟩) (szB l.length) (szB l.length)), (12, I ((szB l.length) : Nat)), (13, I (i : Int)), (4, I (i : Int)), (16, I (x.1 : Int))]) (fun x => [(10, b10, (pb l (8 * i + x.1)).map U8, 5)]) (fun x => 8 - x.1) ⟨0, by omega, hi2⟩ hGF ⟨rfl, rfl, rfl, rfl, rfl, rfl, trivial⟩ ⟨rfl, trivial⟩ ?_
    rintro ⟨k, hk, hk2⟩
    dsimp only
    refine xs_plain (E := EE []) ?_
    refine lx_bin rfl rfl (fun _ => rfl) (fun _ => bin_lss_i _ _ _) rfl rfl ?_
    refine lx_nil ?_
    refine x_seq ?_
    refine x_if rfl (fun hc => ?_) (fun hc => ?_)
    · have hk3 : k < 8 := by simp at hc; omega
      clear hc
      refine x_skip ?_
      refine x_seq ?_
      refine x_block ?_
      refine xs_plain (E := EE []) ?_
      refine lx_move rfl rfl rfl ?_
      refine lx_assign rfl rfl rfl ?_
      refine lx_nil ?_
      refine xs_plain (E := EE []) ?_
      refine lx_move rfl rfl rfl ?_
      refine lx_bin (v := I (((8 * i : Nat) : Int))) rfl rfl (fun _ => rfl) (fun _ => (bin_mul_i _ _ _ (by unfold inI; omega)).trans (by rfl)) rfl rfl ?_
      refine lx_move rfl rfl rfl ?_
      refine lx_bin (v := I (((8 * i + k : Nat) : Int))) rfl rfl (fun _ => rfl) (fun _ => (bin_add_i _ _ _ (by unfold inI; omega)).trans (by rfl)) rfl rfl ?_
      refine lx_assign rfl rfl rfl ?_
      refine lx_nil ?_
      refine x_block ?_
      refine xs_plain (E := EE []) ?_
      refine lx_move rfl rfl rfl ?_
      refine lx_move rfl rfl rfl ?_
      refine lx_len rfl (fun _ => len_slice Try.underlying34 _ _ _ _) rfl rfl ?_
      refine lx_bin rfl rfl (fun _ => rfl) (fun _ => bin_eql_i _ _ _) rfl rfl ?_
      refine lx_assign rfl rfl rfl ?_
      refine lx_nil ?_
      refine x_if rfl (fun hc => ?_) (fun hc => ?_)
      · have hJ : 8 * i + k = l.length := by simp at hc; omega
        clear hc
        refine x_exit ?_
        refine xs_plain (E := EE []) ?_
        refine lx_move rfl rfl rfl ?_
        refine lx_assign rfl rfl rfl ?_
        refine lx_nil ?_
        refine x_ret ?_
        repeat (first | refine kseq_ret ?_ | refine kblk_ret ?_ | refine kng_ret ?_)
        exact kret_tmp rfl rfl (fun w' hw' => ⟨_, rfl, hp_below hw', fr8_pb (n := 10) hJ hw' rfl⟩)
      · have hat : 8 * i + k < l.length := by simp at hc; omega
        clear hc
        obtain ⟨ad, rfl, hcell⟩ := atB hb hat
        refine xs_plain (E := EE []) ?_
        refine lx_move rfl rfl rfl ?_
        refine lx_move rfl rfl rfl ?_
        refine lx_isA (8 * i + k) rfl rfl Try.underlying34 Try.sizeOf4 rfl hat rfl rfl ?_
        refine lx_load rfl Try.isAgg4 (fun w' h => ((hp_below h).cell (block_lt_of_cell hcell)).trans hcell) rfl rfl ?_
        refine lx_assign rfl rfl rfl ?_
        refine lx_nil ?_
        refine x_if rfl (fun hc => ?_) (fun hc => ?_)
        · have hbit := hc
          clear hc
          refine x_drawn (E := EE []) mixed (by kernel_rfl) (by kernel_rfl) (by kernel_rfl) ?_
          refine lx_move rfl rfl rfl ?_
          refine lx_move rfl rfl rfl ?_
          refine lx_is0 i rfl rfl Try.underlying46 Try.sizeOf5 rfl hi3 rfl rfl ?_
          refine lx_loadm 10 U8 0#8 rfl rfl Try.isAgg5 (by simp; omega) rfl rfl ?_
          refine lx_move rfl rfl rfl ?_
          refine lx_bin (v := U8 (1#8 <<< k)) rfl rfl (fun _ => rfl) (fun _ => bin_shl_i_u8 _ _ _ (by omega)) rfl rfl ?_
          refine lx_bin rfl rfl (fun _ => rfl) (fun _ => bin_or_u8 _ _ _) rfl rfl ?_
          refine lx_is0 i rfl rfl Try.underlying46 Try.sizeOf5 rfl hi3 rfl rfl ?_
          refine lx_storem 10 U8 hGF rfl rfl rfl Try.sizeOf5 rfl (by simp; omega) rfl ?_
          rw [pb_t hk3 hbit]
          refine lx_nil ?_
          refine x_plain (E := EE []) ?_
          refine lx_bin (v := I (((k + 1 : Nat) : Int))) rfl rfl (fun _ => rfl) (fun _ => (bin_add_i _ _ _ (by unfold inI; omega)).trans (by rfl)) rfl rfl ?_
          refine lx_move rfl rfl rfl ?_
          refine lx_nil ?_
          repeat (refine kblk_n ?_)
          refine kseq_n ?_
          first | exact ⟨rfl, ⟨k + 1, by omega, by omega⟩, _, by show 8 - (k + 1) < 8 - k; omega, rfl, ⟨rfl, rfl, rfl, rfl, rfl, rfl, trivial⟩, ⟨rfl, trivial⟩⟩ | exact ⟨rfl, ⟨k + 1, by omega, by omega⟩, _, by show 8 - (k + 1) < 8 - k; omega, rfl, ⟨rfl, rfl, rfl, rfl, rfl, rfl, trivial⟩, ⟨by show _ = some (_, List.map U8 (pb l (8 * i + k + 1)), _); rw [pb_f hbit]; rfl, trivial⟩⟩
        · have hbit := hc
          clear hc
          refine x_skip ?_
          refine x_plain (E := EE []) ?_
          refine lx_bin (v := I (((k + 1 : Nat) : Int))) rfl rfl (fun _ => rfl) (fun _ => (bin_add_i _ _ _ (by unfold inI; omega)).trans (by rfl)) rfl rfl ?_
          refine lx_move rfl rfl rfl ?_
          refine lx_nil ?_
          repeat (refine kblk_n ?_)
          refine kseq_n ?_
          first | exact ⟨rfl, ⟨k + 1, by omega, by omega⟩, _, by show 8 - (k + 1) < 8 - k; omega, rfl, ⟨rfl, rfl, rfl, rfl, rfl, rfl, trivial⟩, ⟨rfl, trivial⟩⟩ | exact ⟨rfl, ⟨k + 1, by omega, by omega⟩, _, by show 8 - (k + 1) < 8 - k; omega, rfl, ⟨rfl, rfl, rfl, rfl, rfl, rfl, trivial⟩, ⟨by show _ = some (_, List.map U8 (pb l (8 * i + k + 1)), _); rw [pb_f hbit]; rfl, trivial⟩⟩
    · obtain rfl : k = 8 := by simp at hc; omega
      clear hc
      refine x_exit ?_
      refine x_plain (E := EE []) ?_
      refine lx_bin (v := I (((i + 1 : Nat) : Int))) rfl rfl (fun _ => rfl) (fun _ => (bin_add_i _ _ _ (by unfold inI; omega)).trans (by rfl)) rfl rfl ?_
      refine lx_move rfl rfl rfl ?_
      refine lx_nil ?_
      repeat (refine kblk_n ?_)
      refine kseq_n ?_
      exact ⟨rfl, ⟨i + 1, by omega, by omega⟩, _, by show szB l.length - (i + 1) < szB l.length - i; omega, rfl, ⟨rfl, rfl, rfl, rfl, trivial⟩, ⟨rfl, trivial⟩⟩
  · have hJ : 8 * i = l.length := by simp at hc; unfold szB at hc hi; omega
    clear hc
    refine x_exit ?_
    refine xs_plain (E := EE []) ?_
    refine lx_move rfl rfl rfl ?_
    refine lx_assign rfl rfl rfl ?_
    refine lx_nil ?_
    refine x_ret ?_
    repeat (first | refine kseq_ret ?_ | refine kblk_ret ?_ | refine kng_ret ?_)
    exact kret_tmp rfl rfl (fun w' hw' => ⟨_, rfl, hp_below hw', fr8_pb (n := 10) hJ hw' rfl⟩)
structure LbV (bs : List (BitVec 8)) (n : Nat) (j : Nat) where
  (b : Nat) (c : List Value) (cap : Nat)
  hc : c.length = cap
  hl : j ≤ cap
  ht : c.take j = (bt bs j).map .bool
theorem bt_app (bs : List (BitVec 8)) {i k : Nat} (hk : k < 8) : (bt bs (8 * i + k)).map Value.bool ++ [.bool ((bs.getD i 0#8 >>> k) &&& 1#8 == 1#8)] = (bt bs (8 * i + k + 1)).map Value.bool := by
  rw [bt_s, List.map_append]
  simp only [bitAt, List.map_cons, List.map_nil]
  rw [show (8 * i + k) / 8 = i from by omega, show (8 * i + k) % 8 = k from by omega]
/-- What bitsOf hands back. -/
def BofV (w w' : World) (v : Value) (bs : List (BitVec 8)) (n : Nat) : Prop := if cleanB bs n = true then ∃ u, v = .tuple #[u, .bool true] ∧ FrB w w' u (bt bs n) else v = .tuple #[.slice none 0 0, .bool false]
theorem bof_f {w w' : World} {bs : List (BitVec 8)} {n i k : Nat} (hn : bs.length = szB n) (hi : i < bs.length) (hk : k < 8) (hJ : 8 * i + k = n) (h : (bs.getD i 0#8 >>> k == 0#8) = false) : BofV w w' (.tuple #[.slice none 0 0, .bool false]) bs n := by
  have e : cleanB bs n = false := by
    unfold cleanB
    rw [show n / 8 = i from by omega, show n % 8 = k from by omega, h]
    unfold szB at hn
    simp
    omega
  unfold BofV; rw [e]; rfl
theorem bof_t {w w' : World} {L : Hl} {bs : List (BitVec 8)} {n i k b m : Nat} {c : List Value} {cp : Nat} (hk : k < 8) (hJ : 8 * i + k = n) (h : (bs.getD i 0#8 >>> k == 0#8) = true) (hcl : c.length = cp) (hcap : 8 * i + k ≤ cp) (ht : c.take (8 * i + k) = (bt bs (8 * i + k)).map .bool) (hp : Hp (pl w) L w') (hl : lkB L m = some (b, c, 4)) : BofV w w' (.tuple #[.slice (some ⟨b, 0, none⟩) (8 * i + k) cp, .bool true]) bs n := by
  have e : cleanB bs n = true := by
    unfold cleanB
    rw [show n / 8 = i from by omega, show n % 8 = k from by omega, h]
    simp
  subst hJ
  unfold BofV; rw [e, if_pos rfl]
  have := frB_own (w := w) (n := m) (a := some ⟨b, 0, none⟩) (cap := cp) (xs := bt bs (8 * i + k)) (.inr ⟨b, c, rfl, hl, hcl, by simpa using hcap, by simpa using ht⟩) hp
  rw [bt_len] at this
  exact ⟨_, rfl, this⟩
theorem bof_e {w w' : World} {L : Hl} {bs : List (BitVec 8)} {n i b m : Nat} {c : List Value} {cp : Nat} (hJ : 8 * i = n) (hcl : c.length = cp) (hcap : 8 * i ≤ cp) (ht : c.take (8 * i) = (bt bs (8 * i)).map .bool) (hp : Hp (pl w) L w') (hl : lkB L m = some (b, c, 4)) : BofV w w' (.tuple #[.slice (some ⟨b, 0, none⟩) (8 * i) cp, .bool true]) bs n := by
  have e : cleanB bs n = true := by
    unfold cleanB
    rw [show n % 8 = 0 from by omega]
    simp
  subst hJ
  unfold BofV; rw [e, if_pos rfl]
  have := frB_own (w := w) (n := m) (a := some ⟨b, 0, none⟩) (cap := cp) (xs := bt bs (8 * i)) (.inr ⟨b, c, rfl, hl, hcl, by simpa using hcap, by simpa using ht⟩) hp
  rw [bt_len] at this
  exact ⟨_, rfl, this⟩
theorem bof_calls (bs : List (BitVec 8)) (a : Option Addr) (cap n : Nat) (hl : n ≤ 1000000) (hn : bs.length = szB n) (w : World) (hw : Gt w) (hb : BytesAt w a bs) : Calls Try.prog 94 [.slice a bs.length cap, I (n : Int)].toArray w (fun e w' => ∃ v, e = .returned v ∧ Grow w w' ∧ BofV w w' v bs n) := by
  have hbl : bs.length ≤ 1000000 := by rw [hn]; unfold szB; omega
  have hGF : BOk Gt (pl w) := gt_low.plain hw
  refine calls_of_X (G := Gt) Try.func94 rfl rfl (Hp (pl w) []) (hp_refl (pl w) trivial rides_true) (good_hp hGF) ?_
  refine xs_plain (E := EE []) ?_
  refine lx_assign rfl rfl rfl ?_
  refine lx_assign rfl rfl rfl ?_
  refine lx_nil ?_
  refine x_scope ?_
  refine xs_plain (E := EE []) ?_
  refine lx_move rfl rfl rfl ?_
  refine lx_mkslC (l := 0) (m := n) (c := List.replicate n (.bool false)) 12 hGF rfl rfl (Nat.zero_le _) Try.underlying34 ti4 ⟨by omega, by omega, by omega⟩ (made4 n) rfl rfl ?_
  intro b12
  refine lx_assign rfl rfl rfl ?_
  refine lx_nil ?_
  refine xs_plain (E := EE []) ?_
  refine lx_assign rfl rfl rfl ?_
  refine lx_nil ?_
  refine x_seq ?_
  refine x_label ?_
  refine x_seq ?_
  refine xs_plain (E := EE []) ?_
  refine lx_move rfl rfl rfl ?_
  refine lx_len rfl (fun _ => len_slice Try.underlying46 _ _ _ _) rfl rfl ?_
  refine lx_move rfl rfl rfl ?_
  refine lx_nil ?_
  refine x_block ?_
  refine x_for (ι := (i : { i : Nat // i ≤ bs.length ∧ 8 * i ≤ n }) × LbV bs n (8 * i.1)) (fun x => [(1, I (n : Int)), (6, .slice (some ⟨x.2.b, 0, none⟩) (8 * x.1.1) x.2.cap), (7, .bool true), (13, .slice a bs.length cap), (14, I (bs.length : Int)), (15, I (x.1.1 : Int))]) (fun x => [(12, x.2.b, x.2.c, 4)]) (fun x => bs.length - x.1.1) ⟨⟨0, Nat.zero_le _, Nat.zero_le _⟩, b12, _, n, by simp, Nat.zero_le _, rfl⟩ hGF ⟨rfl, rfl, rfl, rfl, rfl, rfl, trivial⟩ ⟨rfl, trivial⟩ ?_
  rintro ⟨⟨i, hi, hi2⟩, b, c, cp, hcl, hcap, ht⟩
  dsimp only
  refine xs_plain (E := EE []) ?_
  refine lx_bin rfl rfl (fun _ => rfl) (fun _ => bin_lss_i _ _ _) rfl rfl ?_
  refine lx_nil ?_
  refine x_seq ?_
  refine x_if rfl (fun hc => ?_) (fun hc => ?_)
  · have hi3 : i < bs.length := by simp at hc; omega
    clear hc
    have hi4 : 8 * i < n := by unfold szB at hn; omega
    obtain ⟨ad, rfl, hcell⟩ := at8 hb hi3
    refine x_skip ?_
    refine x_seq ?_
    refine x_block ?_
    refine xs_plain (E := EE []) ?_
    refine lx_isA i rfl rfl Try.underlying46 Try.sizeOf5 rfl hi3 rfl rfl ?_
    refine lx_load rfl Try.isAgg5 (fun w' h => ((hp_below h).cell (block_lt_of_cell hcell)).trans hcell) rfl rfl ?_
    refine lx_assign rfl rfl rfl ?_
    refine lx_nil ?_
    refine xs_plain (E := EE []) ?_
    refine lx_move rfl rfl rfl ?_
    refine lx_nil ?_
    refine x_block ?_
    refine x_for (ι := (k : { k : Nat // k ≤ 8 ∧ 8 * i + k ≤ n }) × LbV bs n (8 * i + k.1)) (fun x => [(1, I (n : Int)), (6, .slice (some ⟨x.2.b, 0, none⟩) (8 * i + x.1.1) x.2.cap), (7, .bool true), (13, .slice (some ad) bs.length cap), (14, I (bs.length : Int)), (15, I (i : Int)), (9, U8 (bs.getD i 0#8)), (19, I (x.1.1 : Int))]) (fun x => [(12, x.2.b, x.2.c, 4)]) (fun x => 8 - x.1.1) ⟨⟨0, by omega, hi2⟩, b, c, cp, hcl, hcap, ht⟩ hGF ⟨rfl, rfl, rfl, rfl, rfl, rfl, rfl, rfl, trivial⟩ ⟨rfl, trivial⟩ ?_
    clear hcl hcap ht
    clear c cp b
    rintro ⟨⟨k, hk, hk2⟩, b, c, cp, hcl, hcap, ht⟩
    dsimp only
    refine xs_plain (E := EE []) ?_
    refine lx_bin rfl rfl (fun _ => rfl) (fun _ => bin_lss_i _ _ _) rfl rfl ?_
    refine lx_nil ?_
    refine x_seq ?_
    refine x_if rfl (fun hc => ?_) (fun hc => ?_)
    · have hk3 : k < 8 := by simp at hc; omega
      clear hc
      refine x_skip ?_
      refine x_seq ?_
      refine x_block ?_
      refine xs_plain (E := EE []) ?_
      refine lx_move rfl rfl rfl ?_
      refine lx_assign rfl rfl rfl ?_
      refine lx_nil ?_
      refine x_seq ?_
      refine xs_plain (E := EE []) ?_
      refine lx_move rfl rfl rfl ?_
      refine lx_len rfl (fun _ => len_slice Try.underlying34 _ _ _ _) rfl rfl ?_
      refine lx_move rfl rfl rfl ?_
      refine lx_bin rfl rfl (fun _ => rfl) (fun _ => bin_eql_i _ _ _) rfl rfl ?_
      refine lx_nil ?_
      refine x_if rfl (fun hc => ?_) (fun hc => ?_)
      · have hJ : 8 * i + k = n := by simp at hc; omega
        clear hc
        refine xs_plain (E := EE []) ?_
        refine lx_move rfl rfl rfl ?_
        refine lx_move rfl rfl rfl ?_
        refine lx_bin (v := U8 (bs.getD i 0#8 >>> k)) rfl rfl (fun _ => rfl) (fun _ => bin_shr_i_u8 _ _ _ (by omega)) rfl rfl ?_
        refine lx_bin rfl rfl (fun _ => rfl) (fun _ => bin_eql_u8 _ _ _) rfl rfl ?_
        refine lx_assign rfl rfl rfl ?_
        refine lx_nil ?_
        refine x_exit ?_
        refine x_seq ?_
        refine xs_plain (E := EE []) ?_
        refine lx_move rfl rfl rfl ?_
        refine lx_un rfl (fun _ => un_not _) rfl rfl ?_
        refine lx_nil ?_
        refine x_if rfl (fun hc => ?_) (fun hc => ?_)
        · have hcl2 := (Bool.not_eq_true' _).mp hc
          clear hc
          refine xs_plain (E := EE []) ?_
          refine lx_assign rfl rfl rfl ?_
          refine lx_assign rfl rfl rfl ?_
          refine lx_nil ?_
          refine x_ret ?_
          repeat (first | refine kseq_ret ?_ | refine kblk_ret ?_ | refine kng_ret ?_)
          first
            | exact kret_tt rfl rfl rfl (fun w' hw' => ⟨_, rfl, hp_below hw', bof_f hn hi3 hk3 hJ hcl2⟩)
            | exact kret_tt rfl rfl rfl (fun w' hw' => ⟨_, rfl, hp_below hw', bof_t (m := 12) hk3 hJ hcl2 hcl hcap ht hw' rfl⟩)
            | exact kret_tt rfl rfl rfl (fun w' hw' => ⟨_, rfl, hp_below hw', bof_e (m := 12) hJ hcl hcap ht hw' rfl⟩)
        · have hcl2 := (Bool.not_eq_false' _).mp hc
          clear hc
          refine x_skip ?_
          refine xs_plain (E := EE []) ?_
          refine lx_move rfl rfl rfl ?_
          refine lx_assign rfl rfl rfl ?_
          refine lx_assign rfl rfl rfl ?_
          refine lx_nil ?_
          refine x_ret ?_
          repeat (first | refine kseq_ret ?_ | refine kblk_ret ?_ | refine kng_ret ?_)
          first
            | exact kret_tt rfl rfl rfl (fun w' hw' => ⟨_, rfl, hp_below hw', bof_f hn hi3 hk3 hJ hcl2⟩)
            | exact kret_tt rfl rfl rfl (fun w' hw' => ⟨_, rfl, hp_below hw', bof_t (m := 12) hk3 hJ hcl2 hcl hcap ht hw' rfl⟩)
            | exact kret_tt rfl rfl rfl (fun w' hw' => ⟨_, rfl, hp_below hw', bof_e (m := 12) hJ hcl hcap ht hw' rfl⟩)
      · have hat : 8 * i + k < n := by simp at hc; omega
        clear hc
        refine x_skip ?_
        refine x_plain (E := EE []) ?_
        refine lx_move rfl rfl rfl ?_
        refine lx_move rfl rfl rfl ?_
        refine lx_move rfl rfl rfl ?_
        refine lx_bin (v := U8 (bs.getD i 0#8 >>> k)) rfl rfl (fun _ => rfl) (fun _ => bin_shr_i_u8 _ _ _ (by omega)) rfl rfl ?_
        refine lx_bin rfl rfl (fun _ => rfl) (fun _ => bin_and_u8 _ _ _) rfl rfl ?_
        refine lx_bin rfl rfl (fun _ => rfl) (fun _ => bin_eql_u8 _ _ _) rfl rfl ?_
        refine lx_bslV 36 [.bool ((bs.getD i 0#8 >>> k) &&& 1#8 == 1#8)] hGF rfl rfl rfl (by decide) (by decide) Try.underlying34 Try.sizeOf4 Try.zeroValue4 rfl rfl rfl ?_
        intro b36
        refine lx_appendV (xs := (bt bs (8 * i + k)).map .bool) (ys := [.bool ((bs.getD i 0#8 >>> k) &&& 1#8 == 1#8)]) 12 hGF (by simp; rfl) rfl Try.underlying34 Try.underlying34 ti4 rfl (.inr ⟨b, c, rfl, rfl, hcl, by simpa using hcap, by simpa using ht⟩) (hp_row (n := 36) rfl) rfl (by simp) (by simp; omega) (by simp; omega) rfl rfl (fun b37 c37 cap37 e37 l37 t37 => ?_)
        rw [bt_app bs hk3] at l37 t37 ⊢
        rw [List.length_map, bt_len] at l37 t37 ⊢
        refine lx_assign rfl rfl rfl ?_
        refine lx_nil ?_
        refine x_plain (E := EE []) ?_
        refine lx_bin (v := I (((k + 1 : Nat) : Int))) rfl rfl (fun _ => rfl) (fun _ => (bin_add_i _ _ _ (by unfold inI; omega)).trans (by rfl)) rfl rfl ?_
        refine lx_move rfl rfl rfl ?_
        refine lx_nil ?_
        repeat (refine kblk_n ?_)
        refine kseq_n ?_
        exact ⟨rfl, ⟨⟨k + 1, by omega, by omega⟩, b37, c37, cap37, e37, l37, t37⟩, _, by show 8 - (k + 1) < 8 - k; omega, rfl, ⟨rfl, rfl, rfl, rfl, rfl, rfl, rfl, rfl, trivial⟩, ⟨rfl, trivial⟩⟩
    · obtain rfl : k = 8 := by simp at hc; omega
      clear hc
      refine x_exit ?_
      refine x_plain (E := EE []) ?_
      refine lx_bin (v := I (((i + 1 : Nat) : Int))) rfl rfl (fun _ => rfl) (fun _ => (bin_add_i _ _ _ (by unfold inI; omega)).trans (by rfl)) rfl rfl ?_
      refine lx_move rfl rfl rfl ?_
      refine lx_nil ?_
      repeat (refine kblk_n ?_)
      refine kseq_n ?_
      exact ⟨rfl, ⟨⟨i + 1, by omega, by omega⟩, b, c, cp, hcl, hcap, ht⟩, _, by show bs.length - (i + 1) < bs.length - i; omega, rfl, ⟨rfl, rfl, rfl, rfl, rfl, rfl, trivial⟩, ⟨rfl, trivial⟩⟩
  · have hJ : 8 * i = n := by simp at hc; unfold szB at hn; omega
    clear hc
    refine x_exit ?_
    refine x_seq ?_
    refine xs_plain (E := EE []) ?_
    refine lx_move rfl rfl rfl ?_
    refine lx_un rfl (fun _ => un_not _) rfl rfl ?_
    refine lx_nil ?_
    refine x_false rfl ?_
    refine x_skip ?_
    refine xs_plain (E := EE []) ?_
    refine lx_move rfl rfl rfl ?_
    refine lx_assign rfl rfl rfl ?_
    refine lx_assign rfl rfl rfl ?_
    refine lx_nil ?_
    refine x_ret ?_
    repeat (first | refine kseq_ret ?_ | refine kblk_ret ?_ | refine kng_ret ?_)
    first
      | exact kret_tt rfl rfl rfl (fun w' hw' => ⟨_, rfl, hp_below hw', bof_f hn hi3 hk3 hJ hcl2⟩)
      | exact kret_tt rfl rfl rfl (fun w' hw' => ⟨_, rfl, hp_below hw', bof_t (m := 12) hk3 hJ hcl2 hcl hcap ht hw' rfl⟩)
      | exact kret_tt rfl rfl rfl (fun w' hw' => ⟨_, rfl, hp_below hw', bof_e (m := 12) hJ hcl hcap ht hw' rfl⟩)
end Go.Proofs.Ytlaanjcnfindnaa
