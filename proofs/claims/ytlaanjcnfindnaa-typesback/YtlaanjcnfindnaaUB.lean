/-
  What the program's fields write.
-/
import Derived.Test.YtlaanjcnfindnaaUA
import Derived.Test.YtlaanjcnfindnaaTE
namespace Go.Proofs.Ytlaanjcnfindnaa
open Go.RowKit
set_option maxRecDepth 100000
set_option maxHeartbeats 1000000

theorem rg_up {w0 w w' : World} {q : Nat} {cs : List Value} (h : w0.rangeAt q 0 cs) (hg : Grow w0 w) (hp : Hp (pl w) [] w') : w'.rangeAt q 0 cs := MM.range (M := fun _ => False) (grow_mm (hg.trans (hp_below hp))) h id
theorem cell_up {w0 w : World} {ad : Addr} {v : Value} (h : w0.cell? ad = some v) (hg : Grow w0 w) : w.cell? ad = some v := (hg.cell (block_lt_of_cell h)).trans h
/-- A writer. -/
def WrX (w : World) (b : Nat) (xs : By) : Prop := ∃ S, WrAt S w b xs
theorem WrX.grow {w w' : World} {b : Nat} {xs : By} (h : WrX w b xs) (hg : Grow w w') : WrX w' b xs := by
  obtain ⟨S, h⟩ := h
  exact ⟨S, h.grow hg⟩
theorem wb_len (S : Nat → Prop) (b : Nat) (xs ys : By) (n : Nat) (hn : ys.length = n) (a : Option Addr) (cap : Nat) (hl : xs.length ≤ 1000000) (hl2 : n ≤ 1000000) (w : World) (hw : Gt w) (hr : WrAt S w b xs) (hy : BytesAt w a ys) : Calls Try.prog 78 [pt b 0, .slice a n cap].toArray w (fun r w' => ∃ v, r = .returned v ∧ MM (fun k => k = b) w w' ∧ (v = .tuple #[] ∧ WrX w' b (xs ++ ys))) := by
  subst hn
  exact (wb_calls S b xs ys a cap hl hl2 w hw (Nat.zero_le _) hr hy).mono fun e w2 ⟨q1, q2, q3⟩ => ⟨_, q1, q2, rfl, _, q3⟩
theorem keysB_pad {ks : List By} {n m : Nat} (hm : min n ks.length = m) : keysB ks n = keysB ks m ++ List.replicate ((n - m) * 48) 0#8 := by
  obtain ⟨d, hd⟩ := Nat.exists_eq_add_of_le (show m ≤ n by omega)
  subst hd
  rw [Nat.add_sub_cancel_left]
  by_cases hk : ks.length ≤ m
  · clear hm
    induction d with
    | zero => simp
    | succ d ih =>
      rw [show m + (d + 1) = (m + d) + 1 from rfl, keysB_s, ih, List.getD_eq_getElem?_getD, List.getElem?_eq_none (by omega), List.append_assoc]
      congr 1
      show List.replicate (d * 48) 0#8 ++ List.replicate 48 0#8 = _
      rw [List.replicate_append_replicate, Nat.succ_mul]
  · obtain rfl : d = 0 := by omega
    simp
/-- Where its bytes lie. -/
def Sp.Dat (b : Nat) (s : Sp) (bs : By) (w : World) : Prop := match s.k with
  | 0 => ∃ x, w.cell? ⟨b, s.o, none⟩ = some (U64 x) ∧ bs = le8 x 8
  | 1 => BytesAt w (some ⟨b, s.o, none⟩) bs ∧ bs.length = s.n ∧ s.n ≤ 1000
  | 2 => ∃ (l : List Bool) (a : Option Addr) (c : Nat), w.cell? ⟨b, s.o, none⟩ = some (.slice a l.length c) ∧ CellsAt w a (l.map .bool) ∧ bs = pb l l.length ∧ l.length ≤ 1000
  | _ => ∃ (ks : List By) (a : Option Addr) (c : Nat), w.cell? ⟨b, s.o, none⟩ = some (.slice a ks.length c) ∧ ks.length ≤ c ∧ RwsAt 48 w a ks ∧ (∀ r ∈ ks, r.length = 48) ∧ bs = keysB ks s.n ∧ s.n ≤ 1000
abbrev WrP (w : World) (wb : Nat) (xs ys : By) (r : Ending) (w' : World) : Prop := r = .returned (.tuple #[]) ∧ MM (fun k => k = wb) w w' ∧ WrX w' wb (xs ++ ys)
structure KW (w : World) (wb : Nat) (xs : By) (ks : List By) (i : Nat) (W : World) : Prop where
  g : Gt W
  m : MM (fun k => k = wb) w W
  r : WrX W wb (xs ++ keysB ks i)
theorem wnum_c (b o q : Nat) (x : BitVec 64) (w0 : World) (hq : w0.rangeAt q 0 [pt b o]) (hx : w0.cell? ⟨b, o, none⟩ = some (U64 x)) (wb : Nat) (xs : By) (hl : xs.length ≤ 1000000) (w : World) (hg : Grow w0 w) (hw : Gt w) (hr : WrX w wb xs) : Calls Try.prog 72 [pt wb 0, pt q 0].toArray w (fun e w' => WrP w wb xs (le8 x 8) e w') := by
  obtain ⟨S, hr⟩ := hr
  have hGF : BOk Gt (pl w) := gt_low.plain hw
  refine calls_of_X (G := Gt) Try.func72 rfl rfl (Hp (pl w) []) (hp_refl (pl w) trivial rides_true) (good_hp hGF) ?_
  refine x_plain (E := EE [73]) ?_
  refine lx_move rfl rfl rfl ?_
  refine lx_load (v := pt b o) rfl Try.isAgg114 (fun w' h => rg_up hq hg h 0 _ rfl) rfl rfl ?_
  refine lx_nilc rfl rfl rfl ?_
  refine lx_load (v := U64 x) rfl Try.isAgg22 (fun w' h => cell_up hx (hg.trans (hp_below h))) rfl rfl ?_
  refine lx_callW gt_low (M := fun k => k = wb) (fun k _ => Nat.zero_le k) rfl rfl ent73 rfl rfl hGF (Q := fun w1 w2 v => v = .tuple #[] ∧ WrX w2 wb (xs ++ le8 x 8)) (fun w1 h1 g1 => (wu_calls S wb xs x hl w1 g1 (Nat.zero_le _) (hr.grow h1)).mono fun e w2 ⟨q1, q2, q3⟩ => ⟨_, q1, q2, rfl, _, q3⟩) (fun w1 w2 v hg1 hm1 g2 hq2 => ?_)
  obtain ⟨rfl, hW⟩ := hq2
  refine lx_nil ?_
  first | exact kret_none rfl (fun w' hw' => ⟨rfl, ((grow_mm hg1).trans hm1).trans (grow_mm (hp_below hw')), hW.grow (hp_below hw')⟩) | exact kend_none rfl (fun w' hw' => ⟨rfl, ((grow_mm hg1).trans hm1).trans (grow_mm (hp_below hw')), hW.grow (hp_below hw')⟩)
theorem woct_c (b o q n c : Nat) (bs : By) (hn : bs.length = n) (hn2 : n ≤ 1000000) (w0 : World) (hq : w0.rangeAt q 0 [.slice (some ⟨b, o, none⟩) n c]) (hb : BytesAt w0 (some ⟨b, o, none⟩) bs) (wb : Nat) (xs : By) (hl : xs.length ≤ 1000000) (w : World) (hg : Grow w0 w) (hw : Gt w) (hr : WrX w wb xs) : Calls Try.prog 77 [pt wb 0, pt q 0].toArray w (fun e w' => WrP w wb xs bs e w') := by
  obtain ⟨S, hr⟩ := hr
  have hGF : BOk Gt (pl w) := gt_low.plain hw
  refine calls_of_X (G := Gt) Try.func77 rfl rfl (Hp (pl w) []) (hp_refl (pl w) trivial rides_true) (good_hp hGF) ?_
  refine x_plain (E := EE [78]) ?_
  refine lx_move rfl rfl rfl ?_
  refine lx_load (v := .slice (some ⟨b, o, none⟩) n c) rfl Try.isAgg46 (fun w' h => rg_up hq hg h 0 _ rfl) rfl rfl ?_
  refine lx_callW gt_low (M := fun k => k = wb) (fun k _ => Nat.zero_le k) rfl rfl ent78 rfl rfl hGF (Q := fun w1 w2 v => v = .tuple #[] ∧ WrX w2 wb (xs ++ bs)) (fun w1 h1 g1 => wb_len S wb xs bs n hn _ c hl hn2 w1 g1 (hr.grow h1) (hb.grow (hg.trans h1))) (fun w1 w2 v hg1 hm1 g2 hq2 => ?_)
  obtain ⟨rfl, hW⟩ := hq2
  refine lx_nil ?_
  first | exact kret_none rfl (fun w' hw' => ⟨rfl, ((grow_mm hg1).trans hm1).trans (grow_mm (hp_below hw')), hW.grow (hp_below hw')⟩) | exact kend_none rfl (fun w' hw' => ⟨rfl, ((grow_mm hg1).trans hm1).trans (grow_mm (hp_below hw')), hW.grow (hp_below hw')⟩)
theorem wbit_c (b o q : Nat) (l : List Bool) (a : Option Addr) (c : Nat) (hn : l.length ≤ 1000) (w0 : World) (hq : w0.rangeAt q 0 [pt b o]) (hx : w0.cell? ⟨b, o, none⟩ = some (.slice a l.length c)) (hb : CellsAt w0 a (l.map .bool)) (wb : Nat) (xs : By) (hl : xs.length ≤ 1000000) (w : World) (hg : Grow w0 w) (hw : Gt w) (hr : WrX w wb xs) : Calls Try.prog 83 [pt wb 0, pt q 0].toArray w (fun e w' => WrP w wb xs (pb l l.length) e w') := by
  obtain ⟨S, hr⟩ := hr
  have hGF : BOk Gt (pl w) := gt_low.plain hw
  refine calls_of_X (G := Gt) Try.func83 rfl rfl (Hp (pl w) []) (hp_refl (pl w) trivial rides_true) (good_hp hGF) ?_
  refine x_plain (E := EE [84]) ?_
  refine lx_move rfl rfl rfl ?_
  refine lx_load (v := pt b o) rfl Try.isAgg132 (fun w' h => rg_up hq hg h 0 _ rfl) rfl rfl ?_
  refine lx_nilc rfl rfl rfl ?_
  refine lx_load (v := .slice a l.length c) rfl Try.isAgg34 (fun w' h => cell_up hx (hg.trans (hp_below h))) rfl rfl ?_
  refine lx_callW gt_low (M := fun k => k = wb) (fun k _ => Nat.zero_le k) rfl rfl ent84 rfl rfl hGF (Q := fun w1 w2 v => v = .tuple #[] ∧ WrX w2 wb (xs ++ pb l l.length)) (fun w1 h1 g1 => (wt_calls S wb xs l a c (by omega) hl w1 g1 (Nat.zero_le _) (hr.grow h1) (hb.grow (hg.trans h1))).mono fun e w2 ⟨q1, q2, q3⟩ => ⟨_, q1, q2, rfl, _, q3⟩) (fun w1 w2 v hg1 hm1 g2 hq2 => ?_)
  obtain ⟨rfl, hW⟩ := hq2
  refine lx_nil ?_
  first | exact kret_none rfl (fun w' hw' => ⟨rfl, ((grow_mm hg1).trans hm1).trans (grow_mm (hp_below hw')), hW.grow (hp_below hw')⟩) | exact kend_none rfl (fun w' hw' => ⟨rfl, ((grow_mm hg1).trans hm1).trans (grow_mm (hp_below hw')), hW.grow (hp_below hw')⟩)
theorem wkey_c (b o q r n : Nat) (ks : List By) (a : Option Addr) (c : Nat) (hkc0 : ks.length ≤ c) (hks1 : ∀ r ∈ ks, r.length = 48) (hn : n ≤ 1000) (w0 : World) (hq : w0.rangeAt q 0 [pt b o]) (hrn : w0.rangeAt r 0 [I (n : Int)]) (hx : w0.cell? ⟨b, o, none⟩ = some (.slice a ks.length c)) (hks : RwsAt 48 w0 a ks) (wb : Nat) (hwb : w0.heap.size ≤ wb) (xs : By) (hl : xs.length ≤ 900000) (w : World) (hg : Grow w0 w) (hw : Gt w) (hr : WrX w wb xs) : Calls Try.prog 81 [pt wb 0, pt q 0, pt r 0].toArray w (fun e w' => WrP w wb xs (keysB ks n) e w') := by
  obtain ⟨S, hr⟩ := hr
  obtain ⟨m, hm⟩ : ∃ m, min n ks.length = m := ⟨_, rfl⟩
  have hGF : BOk Gt (pl w) := gt_low.plain hw
  refine calls_of_X (G := Gt) Try.func81 rfl rfl (Hp (pl w) []) (hp_refl (pl w) trivial rides_true) (good_hp hGF) ?_
  refine xs_plain (E := EE [78]) ?_
  refine lx_load (v := pt b o) rfl Try.isAgg130 (fun w' h => rg_up hq hg h 0 _ rfl) rfl rfl ?_
  refine lx_nilc rfl rfl rfl ?_
  refine lx_load (v := .slice a ks.length c) rfl Try.isAgg27 (fun w' h => cell_up hx (hg.trans (hp_below h))) rfl rfl ?_
  refine lx_assign rfl rfl rfl ?_
  refine lx_nil ?_
  refine xs_plain (E := EE [78]) ?_
  refine lx_move rfl rfl rfl ?_
  refine lx_load (v := I (n : Int)) rfl Try.isAgg3 (fun w' h => rg_up hrn hg h 0 _ rfl) rfl rfl ?_
  refine lx_move rfl rfl rfl ?_
  refine lx_len rfl (fun _ => len_slice Try.underlying27 _ _ _ _) rfl rfl ?_
  refine lx_min (z := (m : Int)) rfl rfl (by split <;> omega) rfl rfl ?_
  refine lx_slsl (l := 0) (h' := m) rfl Try.underlying27 Try.sizeOf29 rfl rfl ⟨Nat.zero_le _, by omega⟩ rfl rfl ?_
  rw [cutS, Nat.sub_zero, Nat.sub_zero]
  refine lx_assign rfl rfl rfl ?_
  refine lx_nil ?_
  refine x_seq ?_
  refine xs_plain (E := EE [78]) ?_
  refine lx_move rfl rfl rfl ?_
  refine lx_len rfl (fun _ => len_slice Try.underlying27 _ _ _ _) rfl rfl ?_
  refine lx_move rfl rfl rfl ?_
  refine lx_nil ?_
  refine x_block ?_
  refine x_now0 gt_low (fun w3 hC g3 => ?_)
  have hI : KW w wb xs ks 0 w3 := ⟨g3, grow_mm (hp_below hC), by rw [show keysB ks 0 = [] from rfl, List.append_nil]; exact ⟨S, hr.grow (hp_below hC)⟩⟩
  clear hC hr
  refine x_forW gt_low (ι := { x : Nat × World // x.1 ≤ m ∧ KW w wb xs ks x.1 x.2 }) (fun x => [(0, pt wb 0), (2, pt r 0), (4, .slice a m c), (16, .slice a m c), (17, I (m : Int)), (18, I (x.1.1 : Int))]) (fun x => x.1.2) (fun x => m - x.1.1) ⟨(0, w3), Nat.zero_le _, hI⟩ (fun x => x.2.2.g) rfl ⟨rfl, rfl, rfl, rfl, rfl, rfl, trivial⟩ ?_
  clear hI S
  rintro ⟨⟨i, W⟩, hi, hI⟩
  dsimp only at hi hI ⊢
  have hGF : BOk Gt (pl W) := gt_low.plain hI.g
  have hgW : Grow w0 W := hI.m.grow0 hg (fun k hk => hk ▸ hwb)
  obtain ⟨S, hrS⟩ := hI.r
  refine xs_plain (E := EE [78]) ?_
  refine lx_bin rfl rfl (fun _ => rfl) (fun _ => bin_lss_i _ _ _) rfl rfl ?_
  refine lx_nil ?_
  refine x_seq ?_
  refine x_if rfl (fun hc => ?_) (fun hc => ?_)
  · have hlt : i < m := by simp at hc; omega
    clear hc
    obtain ⟨y, hyi⟩ : ∃ y, ks[i]? = some y := ⟨_, List.getElem?_eq_getElem (by omega)⟩
    have hy : y.length = 48 := hks1 y (List.mem_of_getElem? hyi)
    obtain ⟨ad, rfl, hkc⟩ := hks i y hyi
    refine x_skip ?_
    refine x_seq ?_
    refine x_block ?_
    refine xs_plain (E := EE [78]) ?_
    refine lx_isAW i 48 rfl rfl Try.underlying27 Try.sizeOf29 rfl hlt rfl rfl ?_
    refine lx_loadA (cs := y.map U8) rfl Try.isAgg29 Try.sizeOf29 (by rw [List.length_map]; exact hy) (fun w' h j v hv => cell_up (hkc j v hv) (hgW.trans (hp_below h))) rfl rfl ?_
    refine lx_allocr 6 hGF zvK rfl rfl ?_
    intro b6
    refine lx_storea 6 hGF rfl rfl rfl Try.sizeOf29 (by rw [List.length_map]; exact hy) rfl (one_u8 _) rfl ?_
    refine lx_nil ?_
    refine x_plain (E := EE [78]) ?_
    refine lx_move rfl rfl rfl ?_
    refine lx_slarr0 rfl Try.underlying29 Try.sizeOf5 (by decide) rfl rfl ?_
    refine lx_callWL gt_low (M := fun k => k = wb) (fun k _ => Nat.zero_le k) rfl rfl ent78 rfl rfl hGF (Q := fun w1 w2 v => v = .tuple #[] ∧ WrX w2 wb ((xs ++ keysB ks i) ++ y)) (fun w1 hC g1 => wb_len S wb _ y 48 hy _ 48 (by rw [List.length_append, keysB_len hks1]; omega) (by decide) w1 g1 (hrS.grow (hp_below hC)) (bytes_cells (CellsAt.range (hp_row (n := 6) rfl w1 hC)))) (fun w1 w2 v hC hm1 g2 hq2 => ?_)
    obtain ⟨rfl, hW⟩ := hq2
    rw [List.append_assoc] at hW
    refine lx_nil ?_
    refine x_plain (E := EE [78]) ?_
    refine lx_bin (v := I (((i + 1 : Nat) : Int))) rfl rfl (fun _ => rfl) (fun _ => (bin_add_i _ _ _ (by unfold inI; omega)).trans (by rfl)) rfl rfl ?_
    refine lx_move rfl rfl rfl ?_
    refine lx_nil ?_
    repeat (refine kblk_n ?_)
    refine kseq_n ?_
    exact ⟨rfl, ⟨(i + 1, w2), hlt, g2, (hI.m.trans (grow_mm (hp_below hC))).trans hm1, by rw [keysB_s, show ks.getD i Z48 = y from by rw [List.getD_eq_getElem?_getD, hyi]; rfl]; exact hW⟩, by show m - (i + 1) < m - i; omega, rfl, ⟨rfl, rfl, rfl, rfl, rfl, rfl, trivial⟩⟩
  · obtain rfl : m = i := by simp at hc; omega
    clear hc
    refine x_exit ?_
    refine x_plain (E := EE [78]) ?_
    refine lx_move rfl rfl rfl ?_
    refine lx_load (v := I (n : Int)) rfl Try.isAgg3 (fun w' h => rg_up hrn hgW h 0 _ rfl) rfl rfl ?_
    refine lx_move rfl rfl rfl ?_
    refine lx_len rfl (fun _ => len_slice Try.underlying27 _ _ _ _) rfl rfl ?_
    refine lx_bin (v := I (((n - m : Nat) : Int))) rfl rfl (fun _ => rfl) (fun _ => (bin_sub_i _ _ _ (by unfold inI; omega)).trans (by congr 2; omega)) rfl rfl ?_
    refine lx_bin (v := I ((((n - m) * 48 : Nat) : Int))) rfl rfl (fun _ => rfl) (fun _ => (bin_mul_i _ _ _ (by unfold inI; omega)).trans (by rfl)) rfl rfl ?_
    refine lx_mkslC (l := (n - m) * 48) (m := (n - m) * 48) (c := (List.replicate ((n - m) * 48) 0#8).map U8) 32 hGF rfl rfl (Nat.le_refl _) Try.underlying46 ti5 ⟨by omega, by omega, by omega⟩ (by rw [Nat.mul_one]; exact made8 _) rfl rfl ?_
    intro b32
    refine lx_callWL gt_low (M := fun k => k = wb) (fun k _ => Nat.zero_le k) rfl rfl ent78 rfl rfl hGF (Q := fun w1 w2 v => v = .tuple #[] ∧ WrX w2 wb ((xs ++ keysB ks m) ++ List.replicate ((n - m) * 48) 0#8)) (fun w1 hC g1 => wb_len S wb _ _ _ (List.length_replicate ..) _ _ (by rw [List.length_append, keysB_len hks1]; omega) (by omega) w1 g1 (hrS.grow (hp_below hC)) (bytes_cells (CellsAt.range (hp_row (n := 32) rfl w1 hC)))) (fun w1 w2 v hC hm1 g2 hq2 => ?_)
    obtain ⟨rfl, hW⟩ := hq2
    rw [List.append_assoc, ← keysB_pad hm] at hW
    refine lx_nil ?_
    first | exact kret_none rfl (fun w' hw' => ⟨rfl, ((hI.m.trans (grow_mm (hp_below hC))).trans hm1).trans (grow_mm (hp_below hw')), hW.grow (hp_below hw')⟩) | exact kend_none rfl (fun w' hw' => ⟨rfl, ((hI.m.trans (grow_mm (hp_below hC))).trans hm1).trans (grow_mm (hp_below hw')), hW.grow (hp_below hw')⟩)
theorem Fd.entW (f : Fd) : Enters Try.prog f.wf := by
  obtain ⟨⟨k, p, n⟩, q, r, c⟩ := f
  rcases k with _ | _ | _ | k
  · exact ent72
  · exact ent77
  · exact ent83
  · exact ent81
/-- What a field writes. -/
theorem wrt_calls (f : Fd) (b : Nat) (bs : By) (w0 : World) (hk : f.Ok b w0) (hd : f.s.Dat b bs w0) (wb : Nat) (hwb : w0.heap.size ≤ wb) (xs : By) (hl : xs.length ≤ 900000) (w : World) (hg : Grow w0 w) (hw : Gt w) (hr : WrX w wb xs) : Calls Try.prog f.wf ([pt wb 0] ++ f.wc).toArray w (fun r w' => WrP w wb xs bs r w') := by
  obtain ⟨⟨k, p, n⟩, q, r, c⟩ := f
  rcases k with _ | _ | _ | k
  · obtain ⟨x, hx, rfl⟩ := hd
    exact wnum_c b p q x w0 hk hx wb xs (by omega) w hg hw hr
  · obtain ⟨hb, hn, hn2⟩ := hd
    exact woct_c b p q n c bs hn (Nat.le_trans hn2 (by decide)) w0 hk.1 hb wb xs (by omega) w hg hw hr
  · obtain ⟨l, a, c2, hx, hb, rfl, hn⟩ := hd
    exact wbit_c b p q l a c2 hn w0 hk.1 hx hb wb xs (by omega) w hg hw hr
  · obtain ⟨ks, a, c2, hx, hc, hks, hk1, rfl, hn⟩ := hd
    exact wkey_c b p q r n ks a c2 hc hk1 hn w0 hk.1 hk.2 hx hks wb hwb xs hl w hg hw hr
end Go.Proofs.Ytlaanjcnfindnaa
