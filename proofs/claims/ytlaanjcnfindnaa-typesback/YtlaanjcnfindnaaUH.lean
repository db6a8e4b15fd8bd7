/-
  The program's fields: measured, written.
-/
import Derived.Test.YtlaanjcnfindnaaUG
import Derived.Test.YtlaanjcnfindnaaUB
namespace Go.Proofs.Ytlaanjcnfindnaa
open Go.RowKit
set_option maxRecDepth 100000
set_option maxHeartbeats 1000000

theorem ent53 : Enters Try.prog 53 := fun _ _ => by kernel_rfl
theorem ent33 : Enters Try.prog 33 := fun _ _ => by kernel_rfl
theorem ent42 : Enters Try.prog 42 := fun _ _ => by kernel_rfl
/-- How many bytes the first fields have. -/
def off (sp : List Sp) (i : Nat) : Nat := ((sp.take i).map Sp.z).sum
theorem off_s {sp : List Sp} {i : Nat} {s : Sp} (h : sp[i]? = some s) : off sp (i + 1) = off sp i + s.z := by
  rw [off, off, List.take_add_one, h, List.map_append, List.sum_append]
  simp
theorem off_le (sp : List Sp) (i : Nat) : off sp i ≤ off sp sp.length := by
  rw [off, off, List.take_length]
  conv => rhs; rw [← List.take_append_drop i sp, List.map_append, List.sum_append]
  exact Nat.le_add_right _ _
theorem flm_at {L : List Fd} {i : Nat} {f : Fd} (h : L[i]? = some f) : ∀ j v, f.cs[j]? = some v → (L.flatMap Fd.cs)[i * 3 + j]? = some v := fun j v hv => by
  obtain ⟨hi, hf⟩ := List.getElem?_eq_some_iff.1 h
  have e : L = L.take i ++ f :: L.drop (i + 1) := by
    conv => lhs; rw [← List.take_append_drop i L, List.drop_eq_getElem_cons hi, hf]
  have hl : ((L.take i).flatMap Fd.cs).length = i * 3 := by rw [flm_len, List.length_take, Nat.min_eq_left (Nat.le_of_lt hi)]
  have hj : j < f.cs.length := (List.getElem?_eq_some_iff.1 hv).1
  rw [e, List.flatMap_append, List.flatMap_cons, List.getElem?_append_right (by rw [hl]; omega), hl, Nat.add_sub_cancel_left, List.getElem?_append_left hj]
  exact hv
theorem fd_at {w : World} {bl : Nat} {L : List Fd} (h : w.rangeAt bl 0 (L.flatMap Fd.cs)) {i : Nat} {f : Fd} (hf : L[i]? = some f) : w.rangeAt bl (i * 3) f.cs := fun j v hv => by
  have := h _ v (flm_at hf j v hv)
  rw [Nat.zero_add] at this
  exact this
theorem map_s {L : List Fd} {i : Nat} {f : Fd} (hf : L[i]? = some f) : (L.map Fd.s)[i]? = some f.s := by rw [List.getElem?_map, hf]; rfl
theorem fsz_calls (L : List Fd) (bl c : Nat) (hl : L.length ≤ 100) (hz : off (L.map Fd.s) (L.map Fd.s).length ≤ 1000000) (w : World) (hw : Gt w) (hL : w.rangeAt bl 0 (L.flatMap Fd.cs)) : Calls Try.prog 53 [.slice (some ⟨bl, 0, none⟩) L.length c].toArray w (fun e w' => e = .returned (I (off (L.map Fd.s) L.length : Int)) ∧ Grow w w') := by
  have hGF : BOk Gt (pl w) := gt_low.plain hw
  refine calls_of_X (G := Gt) Try.func53 rfl rfl (Hp (pl w) []) (hp_refl (pl w) trivial rides_true) (good_hp hGF) ?_
  refine xs_plain (E := EE []) ?_
  refine lx_assign rfl rfl rfl ?_
  refine lx_nil ?_
  refine xs_plain (E := EE []) ?_
  refine lx_assign rfl rfl rfl ?_
  refine lx_nil ?_
  refine x_seq ?_
  refine xs_plain (E := EE []) ?_
  refine lx_move rfl rfl rfl ?_
  refine lx_len rfl (fun _ => len_slice Try.underlying71 _ _ _ _) rfl rfl ?_
  refine lx_move rfl rfl rfl ?_
  refine lx_nil ?_
  refine x_block ?_
  refine x_for (ι := { i : Nat // i ≤ L.length }) (fun x => [(0, .slice (some ⟨bl, 0, none⟩) L.length c), (6, .slice (some ⟨bl, 0, none⟩) L.length c), (7, I (L.length : Int)), (8, I (x.1 : Int)), (3, I (off (L.map Fd.s) x.1 : Int))]) (fun x => []) (fun x => L.length - x.1) ⟨0, Nat.zero_le _⟩ hGF ⟨rfl, rfl, rfl, rfl, rfl, trivial⟩ trivial ?_
  rintro ⟨i, hi⟩
  dsimp only
  refine xs_plain (E := EE []) ?_
  refine lx_bin rfl rfl (fun _ => rfl) (fun _ => bin_lss_i _ _ _) rfl rfl ?_
  refine lx_nil ?_
  refine x_seq ?_
  refine x_if rfl (fun hc => ?_) (fun hc => ?_)
  · have hlt : i < L.length := by simp at hc; omega
    clear hc
    obtain ⟨f, hf⟩ : ∃ f, L[i]? = some f := ⟨_, List.getElem?_eq_getElem hlt⟩
    refine x_skip ?_
    refine x_seq ?_
    refine x_block ?_
    refine xs_plain (E := EE []) ?_
    refine lx_is rfl rfl Try.underlying71 Try.sizeOf101 ⟨by omega, by omega⟩ rfl rfl ?_
    rw [show 0 + ((i : Nat) : Int).toNat * 3 = i * 3 from by omega]
    refine lx_loadr (cs := f.cs) rfl Try.isAgg101 Try.sizeOf101 rfl (fun w' h => rg_g (fd_at hL hf) (hp_below h)) rfl rfl ?_
    refine lx_allocr 5 hGF zvF rfl rfl ?_
    intro b5
    refine lx_storea 5 hGF rfl rfl rfl Try.sizeOf101 rfl rfl f.all rfl ?_
    refine lx_nil ?_
    refine x_plain (E := EE []) ?_
    refine lx_move rfl rfl rfl ?_
    refine lx_fak 0 rfl Try.underlying101 rfl Try.sizeOf3 (by decide) rfl rfl rfl ?_
    refine lx_loadl (v := I (f.s.z : Int)) 5 rfl rfl rfl Try.isAgg3 rfl rfl ?_
    refine lx_bin (v := I ((off (L.map Fd.s) (i + 1) : Int))) rfl rfl (fun _ => rfl) (fun _ => (bin_add_i _ _ _ (by have := off_le (L.map Fd.s) (i + 1); rw [off_s (map_s hf)] at this; unfold inI; omega)).trans (by rw [off_s (map_s hf)]; rfl)) rfl rfl ?_
    refine lx_assign rfl rfl rfl ?_
    refine lx_nil ?_
    refine x_plain (E := EE []) ?_
    refine lx_bin (v := I (((i + 1 : Nat) : Int))) rfl rfl (fun _ => rfl) (fun _ => (bin_add_i _ _ _ (by unfold inI; omega)).trans (by rfl)) rfl rfl ?_
    refine lx_move rfl rfl rfl ?_
    refine lx_nil ?_
    repeat (refine kblk_n ?_)
    refine kseq_n ?_
    exact ⟨rfl, ⟨i + 1, hlt⟩, _, by show L.length - (i + 1) < L.length - i; omega, rfl, ⟨rfl, rfl, rfl, rfl, rfl, trivial⟩, trivial⟩
  · obtain rfl : i = L.length := by simp at hc; omega
    clear hc
    refine x_exit ?_
    refine xs_plain (E := EE []) ?_
    refine lx_move rfl rfl rfl ?_
    refine lx_assign rfl rfl rfl ?_
    refine lx_nil ?_
    refine x_ret ?_
    repeat (first | refine kseq_ret ?_ | refine kblk_ret ?_)
    exact kret_tmp rfl rfl (fun w' hw' => ⟨rfl, hp_below hw'⟩)
theorem wal_X (b : Nat) (xs : By) (hl : xs.length ≤ 1000000) (w : World) (hw : Gt w) (hr : WrX w b xs) : Calls Try.prog 54 [pt b 0].toArray w (fun e w' => ∃ v, e = .returned v ∧ MM (fun _ => False) w w' ∧ Fr8 w w' v xs) := by
  obtain ⟨S, hr⟩ := hr
  exact (wal_calls S b xs hl w hw hr).mono fun e w' ⟨v, h1, h2, h3⟩ => ⟨v, h1, grow_mm h2, h3⟩
/-- Encoding: how far. -/
structure EcS (w : World) (wb : Nat) (Bs : List By) (i : Nat) (W : World) : Prop where
  g : Gt W
  gr : Grow w W
  r : WrX W wb (Bs.take i).flatten
theorem take_fl {Bs : List By} {i : Nat} {y : By} (h : Bs[i]? = some y) : (Bs.take (i + 1)).flatten = (Bs.take i).flatten ++ y := by
  rw [List.take_add_one, h, List.flatten_append]
  simp
theorem fl_le (Bs : List By) (i : Nat) : (Bs.take i).flatten.length ≤ Bs.flatten.length := by
  conv => rhs; rw [← List.take_append_drop i Bs, List.flatten_append, List.length_append]
  exact Nat.le_add_right _ _
theorem zvW (w : World) : (zeroValue 97).run Try.prog w = .ok (.agg [.pointer none, I 0].toArray) w := (Try.zeroValue97 w).trans (by rfl)
theorem enc_calls (b : Nat) (L : List Fd) (bl c : Nat) (hl : L.length ≤ 100) (Bs : List By) (hBl : L.length = Bs.length) (hN : Bs.flatten.length ≤ 900000) (w : World) (hw : Gt w) (hL : w.rangeAt bl 0 (L.flatMap Fd.cs)) (hk : ∀ f ∈ L, f.Ok b w) (hd : ∀ (i : Nat) (f : Fd) (y : By), L[i]? = some f → Bs[i]? = some y → f.s.Dat b y w) : Calls Try.prog 33 [.slice (some ⟨bl, 0, none⟩) L.length c].toArray w (fun e w' => ∃ v, e = .returned v ∧ Grow w w' ∧ Fr8 w w' v Bs.flatten) := by
  have hGF : BOk Gt (pl w) := gt_low.plain hw
  refine calls_of_X (G := Gt) Try.func33 rfl rfl (Hp (pl w) []) (hp_refl (pl w) trivial rides_true) (good_hp hGF) ?_
  refine xs_plain (E := EE [54]) ?_
  refine lx_assign rfl rfl rfl ?_
  refine lx_nil ?_
  refine xs_plain (E := EE [54]) ?_
  refine lx_allocr 3 hGF zvW rfl rfl ?_
  intro wb
  refine lx_nil ?_
  refine x_seq ?_
  refine xs_plain (E := EE [54]) ?_
  refine lx_move rfl rfl rfl ?_
  refine lx_len rfl (fun _ => len_slice Try.underlying71 _ _ _ _) rfl rfl ?_
  refine lx_move rfl rfl rfl ?_
  refine lx_nil ?_
  refine x_block ?_
  refine x_now0 gt_low (fun w3 hC g3 => ?_)
  have hwb : w.heap.size ≤ wb := (hC.own 3 _ _ _ rfl).2.elim id False.elim
  have hI : EcS w wb Bs 0 w3 := ⟨g3, hp_below hC, fun _ => False, [], none, (hC.own 3 _ _ _ rfl).1, rfl, rfl, id⟩
  clear hC
  refine x_forW gt_low (ι := { x : Nat × World // x.1 ≤ L.length ∧ EcS w wb Bs x.1 x.2 }) (fun x => [(3, pt wb 0), (6, .slice (some ⟨bl, 0, none⟩) L.length c), (7, I (L.length : Int)), (8, I (x.1.1 : Int))]) (fun x => x.1.2) (fun x => L.length - x.1.1) ⟨(0, w3), Nat.zero_le _, hI⟩ (fun x => x.2.2.g) rfl ⟨rfl, rfl, rfl, rfl, trivial⟩ ?_
  clear hI
  rintro ⟨⟨i, W⟩, hi, hI⟩
  dsimp only at hi hI ⊢
  have hGF : BOk Gt (pl W) := gt_low.plain hI.g
  refine xs_plain (E := EE [54]) ?_
  refine lx_bin rfl rfl (fun _ => rfl) (fun _ => bin_lss_i _ _ _) rfl rfl ?_
  refine lx_nil ?_
  refine x_seq ?_
  refine x_if rfl (fun hc => ?_) (fun hc => ?_)
  · have hlt : i < L.length := by simp at hc; omega
    clear hc
    obtain ⟨f, hf⟩ : ∃ f, L[i]? = some f := ⟨_, List.getElem?_eq_getElem hlt⟩
    obtain ⟨y, hy⟩ : ∃ y, Bs[i]? = some y := ⟨_, List.getElem?_eq_getElem (by omega)⟩
    refine x_skip ?_
    refine x_seq ?_
    refine x_block ?_
    refine xs_plain (E := EE [54]) ?_
    refine lx_is rfl rfl Try.underlying71 Try.sizeOf101 ⟨by omega, by omega⟩ rfl rfl ?_
    rw [show 0 + ((i : Nat) : Int).toNat * 3 = i * 3 from by omega]
    refine lx_loadr (cs := f.cs) rfl Try.isAgg101 Try.sizeOf101 rfl (fun w' h => rg_g (fd_at hL hf) (hI.gr.trans (hp_below h))) rfl rfl ?_
    refine lx_allocr 5 hGF zvF rfl rfl ?_
    intro b5
    refine lx_storea 5 hGF rfl rfl rfl Try.sizeOf101 rfl rfl f.all rfl ?_
    refine lx_nil ?_
    refine x_plain (E := EE [54]) ?_
    refine lx_fak 1 rfl Try.underlying101 rfl Try.sizeOf98 (by decide) rfl rfl rfl ?_
    refine lx_loadl (v := fun_ f.wf f.wc) 5 rfl rfl rfl Try.isAgg98 rfl rfl ?_
    refine lx_callFW gt_low (M := fun k => k = wb) (fun k _ => Nat.zero_le k) rfl rfl f.entW rfl rfl rfl hGF (Q := fun w1 w2 v => v = .tuple #[] ∧ WrX w2 wb (Bs.take (i + 1)).flatten) (fun w1 h1 g1 => (wrt_calls f b y w (hk f (List.mem_of_getElem? hf)) (hd i f y hf hy) wb hwb _ (Nat.le_trans (fl_le Bs i) hN) w1 (hI.gr.trans h1) g1 (hI.r.grow h1)).mono fun e w2 ⟨q1, q2, q3⟩ => ⟨_, q1, q2, rfl, by rw [take_fl hy]; exact q3⟩) (fun w1 w2 v hg1 hm1 g2 hq => ?_)
    obtain ⟨rfl, hW⟩ := hq
    refine lx_nil ?_
    refine x_plain (E := EE [54]) ?_
    refine lx_bin (v := I (((i + 1 : Nat) : Int))) rfl rfl (fun _ => rfl) (fun _ => (bin_add_i _ _ _ (by unfold inI; omega)).trans (by rfl)) rfl rfl ?_
    refine lx_move rfl rfl rfl ?_
    refine lx_nil ?_
    repeat (refine kblk_n ?_)
    refine kseq_n ?_
    exact ⟨rfl, ⟨(i + 1, w2), hlt, g2, hm1.grow0 (hI.gr.trans hg1) (fun k hk => hk ▸ hwb), hW⟩, by show L.length - (i + 1) < L.length - i; omega, rfl, ⟨rfl, rfl, rfl, rfl, trivial⟩⟩
  · obtain rfl : i = L.length := by simp at hc; omega
    clear hc
    refine x_exit ?_
    refine xs_plain (E := EE [54]) ?_
    refine lx_callW gt_low (M := fun _ => False) (fun k h => h.elim) rfl rfl ent54 rfl rfl hGF (Q := fun w1 w2 v => Fr8 w1 w2 v Bs.flatten) (fun w1 h1 g1 => wal_X wb Bs.flatten (by omega) w1 g1 (by have := hI.r; rw [hBl, List.take_length] at this; exact this.grow h1)) (fun w1 w2 v hg1 hm1 g2 hq => ?_)
    obtain ⟨a2, c2, rfl, hs2, hn2⟩ := hq
    refine lx_assign rfl rfl rfl ?_
    refine lx_nil ?_
    refine x_ret ?_
    repeat (first | refine kseq_ret ?_ | refine kblk_ret ?_)
    exact kret_tmp rfl rfl (fun w' hw' => ⟨_, rfl, ((hI.gr.trans hg1).trans (hm1.grow (fun _ _ h => h))).trans (hp_below hw'), a2, c2, rfl, hs2.grow (hp_below hw'), fun ad e => Nat.le_trans (hI.gr.trans hg1).size (hn2 ad e)⟩)
end Go.Proofs.Ytlaanjcnfindnaa
