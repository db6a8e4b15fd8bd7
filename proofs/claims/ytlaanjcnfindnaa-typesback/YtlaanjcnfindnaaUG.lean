/-
  The program's lists of fields, put together: the containers.
-/
import Derived.Test.YtlaanjcnfindnaaUF
namespace Go.Proofs.Ytlaanjcnfindnaa
open Go.RowKit
set_option maxRecDepth 100000
set_option maxHeartbeats 1000000

/-- A container's list of fields. -/
def LsX (w w' : World) (b : Nat) (sp : List Sp) (v : Value) : Prop := ∃ (L : List Fd) (bl c : Nat), v = .slice (some ⟨bl, 0, none⟩) L.length c ∧ L.length ≤ c ∧ L.map Fd.s = sp ∧ w'.rangeAt bl 0 (L.flatMap Fd.cs) ∧ w.heap.size ≤ bl ∧ ∀ f ∈ L, f.Ok b w' ∧ f.Nw w
/-- A piece of a list. -/
structure Pl where
  (L : List Fd) (a : Option Addr) (c : Nat)
def Pl.v (p : Pl) : Value := .slice p.a p.L.length p.c
def Ls (ps : List Pl) (i : Nat) : List Fd := (ps.take i).flatMap Pl.L
theorem Ls_s {ps : List Pl} {i : Nat} {p : Pl} (h : ps[i]? = some p) : Ls ps (i + 1) = Ls ps i ++ p.L := by
  rw [Ls, Ls, List.take_add_one, h, List.flatMap_append]
  simp
theorem Ls_all (ps : List Pl) : Ls ps ps.length = ps.flatMap Pl.L := by rw [Ls, List.take_length]
theorem Ls_le (ps : List Pl) (i : Nat) : (Ls ps i).length ≤ (ps.flatMap Pl.L).length := by
  conv => rhs; rw [← List.take_append_drop i ps, List.flatMap_append, List.length_append]
  exact Nat.le_add_right _ _
theorem cells_some {w : World} {a : Option Addr} {L : List Fd} (h : CellsAt w a (L.flatMap Fd.cs)) (hn : L ≠ []) : ∃ ad, a = some ad := by
  obtain ⟨f, r, rfl⟩ := List.exists_cons_of_ne_nil hn
  obtain ⟨ad, e, _⟩ := h 0 (I (f.s.z : Int)) rfl
  exact ⟨ad, e⟩
theorem new_app {a : Option Addr} {w0 w1 : World} {a1 : Option Addr} (h0 : New w0 a) (hg : w0.heap.size ≤ w1.heap.size) (ho : ∀ k, Of a1 k → Of a k ∨ w1.heap.size ≤ k) : New w0 a1 := fun ad e =>
  (ho ad.block ⟨ad, e, rfl⟩).elim (fun ⟨ad2, e2, h2⟩ => h2 ▸ h0 ad2 e2) (fun h => Nat.le_trans hg h)
/-- Lists put together: how far. -/
structure CnS (w : World) (ps : List Pl) (i : Nat) (W : World) (a : Option Addr) (c : Nat) : Prop where
  g : Gt W
  gr : Grow w W
  s : SlW 101 3 W a c (Ls ps i).length ((Ls ps i).flatMap Fd.cs)
  n : New w a
theorem ne_sp {L : List Fd} {s : Sp} {r : List Sp} (h : L.map Fd.s = s :: r) : L ≠ [] := fun e => by rw [e] at h; cases h
theorem con_calls (ps : List Pl) (sb : Nat) (hpl : ps.length ≤ 100) (h0 : 0 < (ps.flatMap Pl.L).length) (hN : (ps.flatMap Pl.L).length ≤ 1000) (w : World) (hw : Gt w) (hsb : w.rangeAt sb 0 (ps.map Pl.v)) (hps : ∀ p ∈ ps, CellsAt w p.a (p.L.flatMap Fd.cs) ∧ p.L.length ≤ p.c ∧ p.L ≠ []) : Calls Try.prog 55 [.slice (some ⟨sb, 0, none⟩) ps.length ps.length].toArray w (fun e w' => ∃ bl c, e = .returned (.slice (some ⟨bl, 0, none⟩) (ps.flatMap Pl.L).length c) ∧ Grow w w' ∧ (ps.flatMap Pl.L).length ≤ c ∧ w'.rangeAt bl 0 ((ps.flatMap Pl.L).flatMap Fd.cs) ∧ w.heap.size ≤ bl) := by
  have hGF : BOk Gt (pl w) := gt_low.plain hw
  refine calls_of_X (G := Gt) Try.func55 rfl rfl (Hp (pl w) []) (hp_refl (pl w) trivial rides_true) (good_hp hGF) ?_
  refine xs_plain (E := EE [68]) ?_
  refine lx_assign rfl rfl rfl ?_
  refine lx_nil ?_
  refine xs_plain (E := EE [68]) ?_
  refine lx_assign rfl rfl rfl ?_
  refine lx_nil ?_
  refine x_seq ?_
  refine xs_plain (E := EE [68]) ?_
  refine lx_move rfl rfl rfl ?_
  refine lx_len rfl (fun _ => len_slice Try.underlying126 _ _ _ _) rfl rfl ?_
  refine lx_move rfl rfl rfl ?_
  refine lx_nil ?_
  refine x_block ?_
  refine x_for (ι := { i : Nat // i ≤ ps.length }) (fun x => [(0, .slice (some ⟨sb, 0, none⟩) ps.length ps.length), (9, .slice (some ⟨sb, 0, none⟩) ps.length ps.length), (10, I (ps.length : Int)), (11, I (x.1 : Int)), (3, I ((Ls ps x.1).length : Int))]) (fun x => []) (fun x => ps.length - x.1) ⟨0, Nat.zero_le _⟩ hGF ⟨rfl, rfl, rfl, rfl, rfl, trivial⟩ trivial ?_
  rintro ⟨i, hi⟩
  dsimp only
  refine xs_plain (E := EE [68]) ?_
  refine lx_bin rfl rfl (fun _ => rfl) (fun _ => bin_lss_i _ _ _) rfl rfl ?_
  refine lx_nil ?_
  refine x_seq ?_
  refine x_if rfl (fun hc => ?_) (fun hc => ?_)
  · have hlt : i < ps.length := by simp at hc; omega
    clear hc
    obtain ⟨⟨pL, pa, pc⟩, hp⟩ : ∃ p, ps[i]? = some p := ⟨_, List.getElem?_eq_getElem hlt⟩
    obtain ⟨hca, hpc, hpn⟩ := hps _ (List.mem_of_getElem? hp)
    dsimp only at hca hpc hpn
    have hLs : Ls ps (i + 1) = Ls ps i ++ pL := Ls_s hp
    have hLe := Ls_le ps (i + 1)
    rw [hLs, List.length_append] at hLe
    refine x_skip ?_
    refine x_seq ?_
    refine x_block ?_
    refine xs_plain (E := EE [68]) ?_
    refine lx_is0 i rfl rfl Try.underlying126 Try.sizeOf71 rfl hlt rfl rfl ?_
    refine lx_load (v := .slice pa pL.length pc) rfl Try.isAgg71 (fun w' h => (by have := rg_g hsb (hp_below h) i _ (by rw [List.getElem?_map, hp]; rfl); rw [Nat.zero_add] at this; exact this)) rfl rfl ?_
    refine lx_assign rfl rfl rfl ?_
    refine lx_nil ?_
    refine xs_plain (E := EE [68]) ?_
    refine lx_move rfl rfl rfl ?_
    refine lx_move rfl rfl rfl ?_
    refine lx_len rfl (fun _ => len_slice Try.underlying71 _ _ _ _) rfl rfl ?_
    refine lx_bin (v := I (((Ls ps (i + 1)).length : Int))) rfl rfl (fun _ => rfl) (fun _ => (bin_add_i _ _ _ (by have := Ls_le ps (i + 1); rw [hLs, List.length_append] at this; unfold inI; omega)).trans (by rw [hLs, List.length_append]; rfl)) rfl rfl ?_
    refine lx_assign rfl rfl rfl ?_
    refine lx_nil ?_
    refine xs_plain (E := EE [68]) ?_
    refine lx_move rfl rfl rfl ?_
    refine lx_binB false rfl rfl (fun _ => rfl) (fun _ => bin_lss_i _ _ _) (by simp) rfl rfl ?_
    refine lx_nil ?_
    refine x_false rfl ?_
    refine x_skip ?_
    refine x_plain (E := EE [68]) ?_
    refine lx_bin (v := I (((i + 1 : Nat) : Int))) rfl rfl (fun _ => rfl) (fun _ => (bin_add_i _ _ _ (by unfold inI; omega)).trans (by rfl)) rfl rfl ?_
    refine lx_move rfl rfl rfl ?_
    refine lx_nil ?_
    repeat (refine kblk_n ?_)
    refine kseq_n ?_
    exact ⟨rfl, ⟨i + 1, hlt⟩, _, by show ps.length - (i + 1) < ps.length - i; omega, rfl, ⟨rfl, rfl, rfl, rfl, rfl, trivial⟩, trivial⟩
  · obtain rfl : i = ps.length := by simp at hc; omega
    clear hc
    refine x_exit ?_
    refine xs_plain (E := EE [68]) ?_
    refine lx_move rfl rfl rfl ?_
    refine lx_callW gt_low (M := fun _ => False) (fun k h => h.elim) rfl rfl ent68 rfl rfl hGF (Q := fun w1 w2 v => ∃ a c, v = .slice a 0 c ∧ SlW 101 3 w2 a c 0 [] ∧ New w1 a) (fun w1 h1 g1 => (gro_calls (Ls ps ps.length).length (by rw [Ls_all]; exact h0) (by rw [Ls_all]; exact hN) w1 g1).mono fun e w2 ⟨a, c, q1, q2, q3, q4⟩ => ⟨_, q1, grow_mm q2, a, c, rfl, q3, q4⟩) (fun w1 w2 v hg1 hm1 g2 hq => ?_)
    obtain ⟨a2, c2, rfl, hs2, hn2⟩ := hq
    have hG := hg1.trans (hm1.grow (fun _ _ h => h))
    have hn2 : New w a2 := fun ad e => Nat.le_trans hg1.size (hn2 ad e)
    have hGF : BOk Gt (pl w2) := gt_low.plain g2
    refine lx_assign rfl rfl rfl ?_
    refine lx_nil ?_
    refine x_seq ?_
    refine xs_plain (E := EE [68]) ?_
    refine lx_move rfl rfl rfl ?_
    refine lx_len rfl (fun _ => len_slice Try.underlying126 _ _ _ _) rfl rfl ?_
    refine lx_move rfl rfl rfl ?_
    refine lx_nil ?_
    refine x_block ?_
    refine x_now0 gt_low (fun w3 hC g3 => ?_)
    have hI : CnS w ps 0 w3 a2 c2 := ⟨g3, hG.trans (hp_below hC), hs2.grow (hp_below hC), hn2⟩
    clear hC
    refine x_forW gt_low (ι := { x : Nat × World × Option Addr × Nat // x.1 ≤ ps.length ∧ CnS w ps x.1 x.2.1 x.2.2.1 x.2.2.2 }) (fun x => [(25, .slice (some ⟨sb, 0, none⟩) ps.length ps.length), (26, I (ps.length : Int)), (27, I (x.1.1 : Int)), (6, .slice x.1.2.2.1 (Ls ps x.1.1).length x.1.2.2.2)]) (fun x => x.1.2.1) (fun x => ps.length - x.1.1) ⟨(0, w3, a2, c2), Nat.zero_le _, hI⟩ (fun x => x.2.2.g) rfl ⟨rfl, rfl, rfl, rfl, trivial⟩ ?_
    clear hI hi
    rintro ⟨⟨i, W, a, c⟩, hi, hI⟩
    dsimp only at hi hI ⊢
    have hGF : BOk Gt (pl W) := gt_low.plain hI.g
    refine xs_plain (E := EE [68]) ?_
    refine lx_bin rfl rfl (fun _ => rfl) (fun _ => bin_lss_i _ _ _) rfl rfl ?_
    refine lx_nil ?_
    refine x_seq ?_
    refine x_if rfl (fun hc => ?_) (fun hc => ?_)
    · have hlt : i < ps.length := by simp at hc; omega
      clear hc
      obtain ⟨⟨pL, pa, pc⟩, hp⟩ : ∃ p, ps[i]? = some p := ⟨_, List.getElem?_eq_getElem hlt⟩
      obtain ⟨hca, hpc, hpn⟩ := hps _ (List.mem_of_getElem? hp)
      dsimp only at hca hpc hpn
      have hLs : Ls ps (i + 1) = Ls ps i ++ pL := Ls_s hp
      have hLe := Ls_le ps (i + 1)
      rw [hLs, List.length_append] at hLe
      obtain ⟨ad, rfl⟩ := cells_some hca hpn
      refine x_skip ?_
      refine x_seq ?_
      refine x_block ?_
      refine xs_plain (E := EE [68]) ?_
      refine lx_is0 i rfl rfl Try.underlying126 Try.sizeOf71 rfl hlt rfl rfl ?_
      refine lx_load (v := .slice (some ad) pL.length pc) rfl Try.isAgg71 (fun w' h => (by have := rg_g hsb (hI.gr.trans (hp_below h)) i _ (by rw [List.getElem?_map, hp]; rfl); rw [Nat.zero_add] at this; exact this)) rfl rfl ?_
      refine lx_assign rfl rfl rfl ?_
      refine lx_nil ?_
      refine x_plain (E := EE [68]) ?_
      refine lx_move rfl rfl rfl ?_
      refine lx_move rfl rfl rfl ?_
      refine lx_appX (xs := (Ls ps i).flatMap Fd.cs) (ys := pL.flatMap Fd.cs) (nx := (Ls ps i).length) (ny := pL.length) gt_low (fun w' h => hGF.g _ _ _ h) rfl rfl tiF rfl (fun w' h => hI.s.grow (hp_below h)) (fun k _ => Nat.zero_le k) (fun w' h j hj hz hs hb => ASrc.of Try.underlying71 hj hz (by rw [hs]; exact Src.ofSlice w' Try.underlying71 ad pL.length pc _ (flm_len pL) (fun j u hu => by obtain ⟨ad2, e2, hc2⟩ := (hca.grow (hI.gr.trans (hp_below h))) j u hu; cases e2; exact hc2) (flm_one pL))) (by omega) (by omega) rfl rfl (fun w5 w6 a6 c6 hC g6 hm hs9 ho => ?_)
      rw [← List.length_append, ← hLs, ← List.flatMap_append, ← hLs] at hs9
      rw [← List.length_append, ← hLs]
      refine lx_assign rfl rfl rfl ?_
      refine lx_nil ?_
      refine x_plain (E := EE [68]) ?_
      refine lx_bin (v := I (((i + 1 : Nat) : Int))) rfl rfl (fun _ => rfl) (fun _ => (bin_add_i _ _ _ (by unfold inI; omega)).trans (by rfl)) rfl rfl ?_
      refine lx_move rfl rfl rfl ?_
      refine lx_nil ?_
      repeat (refine kblk_n ?_)
      refine kseq_n ?_
      exact ⟨rfl, ⟨(i + 1, w6, a6, c6), hlt, g6, hm.grow0 (hI.gr.trans (hp_below hC)) (fun k ⟨ad2, e2, h2⟩ => h2 ▸ hI.n ad2 e2), hs9, new_app hI.n (Nat.le_trans hI.gr.size (hp_below hC).size) ho⟩, by show ps.length - (i + 1) < ps.length - i; omega, rfl, ⟨rfl, rfl, rfl, rfl, trivial⟩⟩
    · obtain rfl : i = ps.length := by simp at hc; omega
      clear hc
      refine x_exit ?_
      refine xs_plain (E := EE [68]) ?_
      refine lx_move rfl rfl rfl ?_
      refine lx_assign rfl rfl rfl ?_
      refine lx_nil ?_
      refine x_ret ?_
      repeat (first | refine kseq_ret ?_ | refine kblk_ret ?_)
      exact kret_tmp rfl rfl (fun w' hw' => by have hnb := hI.n; obtain ⟨bl, rfl, hb⟩ := (hI.s.grow (hp_below hw')).at (fun h => by have := congrArg List.length h; rw [flm_len, Ls_all] at this; simp only [List.length_nil] at this; omega); exact ⟨bl, c, by rw [Ls_all], hI.gr.trans (hp_below hw'), by have := hI.s.le; rw [Ls_all] at this; exact this, by rw [Ls_all] at hb; exact hb, hnb _ rfl⟩)
def upS (n : Nat) : List Sp := hdS 0 ++ (coS 98 n ++ (brS 147 5 ++ (hdS 307 ++ (brS 405 6 ++ (agS 597 n ++ [⟨0, 694, 0⟩])))))
def fiS (n : Nat) : List Sp := hdS 0 ++ (hdS 307 ++ (brS 405 6 ++ (agS 597 n ++ [⟨0, 694, 0⟩])))
def opS (n : Nat) : List Sp := hdS 0 ++ (agS 597 n ++ [⟨0, 694, 0⟩])
def boS (n : Nat) : List Sp := hdS 0 ++ (coS 98 n ++ brS 147 5)
theorem up_calls (b n : Nat) (hn : n ≤ 1000) (w : World) (hw : Gt w) : Calls Try.prog 34 [pt b 0, I (n : Int)].toArray w (fun e w' => ∃ v, e = .returned v ∧ Grow w w' ∧ LsX w w' b (upS n) v) := by
  have hGF : BOk Gt (pl w) := gt_low.plain hw
  refine calls_of_X (G := Gt) Try.func34 rfl rfl (Hp (pl w) []) (hp_refl (pl w) trivial rides_true) (good_hp hGF) ?_
  refine xs_plain (E := EE [55, 56, 57, 58, 59, 60]) ?_
  refine lx_assign rfl rfl rfl ?_
  refine lx_nil ?_
  refine xs_draws (E := EE [55, 56, 57, 58, 59, 60]) [0, 1, 2, 4, 5, 6, 7, 9, 10, 11, 12, 14, 15, 16, 18, 19, 20, 21, 23, 24, 25, 26, 28, 29, 30, 3, 8, 13, 17, 22, 27, 31, 32, 33, 34, 35] mixed rfl (by kernel_rfl) (by kernel_rfl) (by kernel_rfl) ?_
  refine lx_move rfl rfl rfl ?_
  refine lx_nilc rfl rfl rfl ?_
  refine lx_fak (0) rfl Try.underlying40 rfl Try.sizeOf26 (by decide) rfl rfl rfl ?_
  refine lx_move rfl rfl rfl ?_
  refine lx_nilc rfl rfl rfl ?_
  refine lx_fak (98) rfl Try.underlying40 rfl Try.sizeOf31 (by decide) rfl rfl rfl ?_
  refine lx_move rfl rfl rfl ?_
  refine lx_move rfl rfl rfl ?_
  refine lx_nilc rfl rfl rfl ?_
  refine lx_fak (147) rfl Try.underlying40 rfl Try.sizeOf32 (by decide) rfl rfl rfl ?_
  refine lx_slarr0 rfl Try.underlying32 Try.sizeOf24 (by decide) rfl rfl ?_
  refine lx_move rfl rfl rfl ?_
  refine lx_nilc rfl rfl rfl ?_
  refine lx_fak (307) rfl Try.underlying40 rfl Try.sizeOf26 (by decide) rfl rfl rfl ?_
  refine lx_move rfl rfl rfl ?_
  refine lx_nilc rfl rfl rfl ?_
  refine lx_fak (405) rfl Try.underlying40 rfl Try.sizeOf33 (by decide) rfl rfl rfl ?_
  refine lx_slarr0 rfl Try.underlying33 Try.sizeOf24 (by decide) rfl rfl ?_
  refine lx_move rfl rfl rfl ?_
  refine lx_nilc rfl rfl rfl ?_
  refine lx_fak (597) rfl Try.underlying40 rfl Try.sizeOf38 (by decide) rfl rfl rfl ?_
  refine lx_move rfl rfl rfl ?_
  refine lx_move rfl rfl rfl ?_
  refine lx_nilc rfl rfl rfl ?_
  refine lx_fak (694) rfl Try.underlying40 rfl Try.sizeOf22 (by decide) rfl rfl rfl ?_
  refine lx_callW gt_low (M := fun _ => False) (fun k h => h.elim) rfl rfl ent56 rfl rfl hGF (Q := fun w1 w2 v => LsR w1 w2 b (hdS 0) v) (fun w1 h1 g1 => (hd_calls b 0 w1 g1).mono fun e w2 ⟨v, q1, q2, q3⟩ => ⟨v, q1, grow_mm q2, q3⟩) (fun w8a w8 v8 hg8 hm8 gg8 hq8 => ?_)
  have hm8 := hm8.grow (fun _ _ h => h)
  have hr8 := hg8.trans hm8
  have hGF := gt_low.plain gg8
  obtain ⟨L8, a8, c8, rfl, hl8, hs8, hc8, hx8⟩ := hq8
  have hk8 : AllOk b L8 w8 := ⟨fun f hf => (hx8 f hf).1⟩
  have hn8 := fun f hf => (hx8 f hf).2
  have hn8 := fun f hf => (hn8 f hf).low hg8
  have hG := hr8
  refine lx_callW gt_low (M := fun _ => False) (fun k h => h.elim) rfl rfl ent57 rfl rfl hGF (Q := fun w1 w2 v => LsR w1 w2 b (coS 98 n) v) (fun w1 h1 g1 => (co_calls b 98 n hn w1 g1).mono fun e w2 ⟨v, q1, q2, q3⟩ => ⟨v, q1, grow_mm q2, q3⟩) (fun w13a w13 v13 hg13 hm13 gg13 hq13 => ?_)
  have hm13 := hm13.grow (fun _ _ h => h)
  have hr13 := hg13.trans hm13
  have hc8 := hc8.grow hr13
  have hk8 := hk8.grow hr13
  have hGF := gt_low.plain gg13
  obtain ⟨L13, a13, c13, rfl, hl13, hs13, hc13, hx13⟩ := hq13
  have hk13 : AllOk b L13 w13 := ⟨fun f hf => (hx13 f hf).1⟩
  have hn13 := fun f hf => (hx13 f hf).2
  have hn13 := fun f hf => (hn13 f hf).low (hG.trans hg13)
  have hG := hG.trans hr13
  refine lx_callW gt_low (M := fun _ => False) (fun k h => h.elim) rfl rfl ent58 rfl rfl hGF (Q := fun w1 w2 v => LsR w1 w2 b (brS 147 5) v) (fun w1 h1 g1 => (br_calls b 147 5 5 (by decide) w1 g1).mono fun e w2 ⟨v, q1, q2, q3⟩ => ⟨v, q1, grow_mm q2, q3⟩) (fun w18a w18 v18 hg18 hm18 gg18 hq18 => ?_)
  have hm18 := hm18.grow (fun _ _ h => h)
  have hr18 := hg18.trans hm18
  have hc8 := hc8.grow hr18
  have hk8 := hk8.grow hr18
  have hc13 := hc13.grow hr18
  have hk13 := hk13.grow hr18
  have hGF := gt_low.plain gg18
  obtain ⟨L18, a18, c18, rfl, hl18, hs18, hc18, hx18⟩ := hq18
  have hk18 : AllOk b L18 w18 := ⟨fun f hf => (hx18 f hf).1⟩
  have hn18 := fun f hf => (hx18 f hf).2
  have hn18 := fun f hf => (hn18 f hf).low (hG.trans hg18)
  have hG := hG.trans hr18
  refine lx_callW gt_low (M := fun _ => False) (fun k h => h.elim) rfl rfl ent56 rfl rfl hGF (Q := fun w1 w2 v => LsR w1 w2 b (hdS 307) v) (fun w1 h1 g1 => (hd_calls b 307 w1 g1).mono fun e w2 ⟨v, q1, q2, q3⟩ => ⟨v, q1, grow_mm q2, q3⟩) (fun w22a w22 v22 hg22 hm22 gg22 hq22 => ?_)
  have hm22 := hm22.grow (fun _ _ h => h)
  have hr22 := hg22.trans hm22
  have hc8 := hc8.grow hr22
  have hk8 := hk8.grow hr22
  have hc13 := hc13.grow hr22
  have hk13 := hk13.grow hr22
  have hc18 := hc18.grow hr22
  have hk18 := hk18.grow hr22
  have hGF := gt_low.plain gg22
  obtain ⟨L22, a22, c22, rfl, hl22, hs22, hc22, hx22⟩ := hq22
  have hk22 : AllOk b L22 w22 := ⟨fun f hf => (hx22 f hf).1⟩
  have hn22 := fun f hf => (hx22 f hf).2
  have hn22 := fun f hf => (hn22 f hf).low (hG.trans hg22)
  have hG := hG.trans hr22
  refine lx_callW gt_low (M := fun _ => False) (fun k h => h.elim) rfl rfl ent58 rfl rfl hGF (Q := fun w1 w2 v => LsR w1 w2 b (brS 405 6) v) (fun w1 h1 g1 => (br_calls b 405 6 6 (by decide) w1 g1).mono fun e w2 ⟨v, q1, q2, q3⟩ => ⟨v, q1, grow_mm q2, q3⟩) (fun w27a w27 v27 hg27 hm27 gg27 hq27 => ?_)
  have hm27 := hm27.grow (fun _ _ h => h)
  have hr27 := hg27.trans hm27
  have hc8 := hc8.grow hr27
  have hk8 := hk8.grow hr27
  have hc13 := hc13.grow hr27
  have hk13 := hk13.grow hr27
  have hc18 := hc18.grow hr27
  have hk18 := hk18.grow hr27
  have hc22 := hc22.grow hr27
  have hk22 := hk22.grow hr27
  have hGF := gt_low.plain gg27
  obtain ⟨L27, a27, c27, rfl, hl27, hs27, hc27, hx27⟩ := hq27
  have hk27 : AllOk b L27 w27 := ⟨fun f hf => (hx27 f hf).1⟩
  have hn27 := fun f hf => (hx27 f hf).2
  have hn27 := fun f hf => (hn27 f hf).low (hG.trans hg27)
  have hG := hG.trans hr27
  refine lx_callW gt_low (M := fun _ => False) (fun k h => h.elim) rfl rfl ent59 rfl rfl hGF (Q := fun w1 w2 v => LsR w1 w2 b (agS 597 n) v) (fun w1 h1 g1 => (ag_calls b 597 n hn w1 g1).mono fun e w2 ⟨v, q1, q2, q3⟩ => ⟨v, q1, grow_mm q2, q3⟩) (fun w32a w32 v32 hg32 hm32 gg32 hq32 => ?_)
  have hm32 := hm32.grow (fun _ _ h => h)
  have hr32 := hg32.trans hm32
  have hc8 := hc8.grow hr32
  have hk8 := hk8.grow hr32
  have hc13 := hc13.grow hr32
  have hk13 := hk13.grow hr32
  have hc18 := hc18.grow hr32
  have hk18 := hk18.grow hr32
  have hc22 := hc22.grow hr32
  have hk22 := hk22.grow hr32
  have hc27 := hc27.grow hr32
  have hk27 := hk27.grow hr32
  have hGF := gt_low.plain gg32
  obtain ⟨L32, a32, c32, rfl, hl32, hs32, hc32, hx32⟩ := hq32
  have hk32 : AllOk b L32 w32 := ⟨fun f hf => (hx32 f hf).1⟩
  have hn32 := fun f hf => (hx32 f hf).2
  have hn32 := fun f hf => (hn32 f hf).low (hG.trans hg32)
  have hG := hG.trans hr32
  refine lx_callW gt_low (M := fun _ => False) (fun k h => h.elim) rfl rfl ent60 rfl rfl hGF (Q := fun w1 w2 v => FdR w1 w2 b ⟨0, 694, 0⟩ v) (fun w1 h1 g1 => (num_calls b 694 w1 g1).mono fun e w2 ⟨v, q1, q2, q3⟩ => ⟨v, q1, grow_mm q2, q3⟩) (fun w36a w36 v36 hg36 hm36 gg36 hq36 => ?_)
  have hm36 := hm36.grow (fun _ _ h => h)
  have hr36 := hg36.trans hm36
  have hc8 := hc8.grow hr36
  have hk8 := hk8.grow hr36
  have hc13 := hc13.grow hr36
  have hk13 := hk13.grow hr36
  have hc18 := hc18.grow hr36
  have hk18 := hk18.grow hr36
  have hc22 := hc22.grow hr36
  have hk22 := hk22.grow hr36
  have hc27 := hc27.grow hr36
  have hk27 := hk27.grow hr36
  have hc32 := hc32.grow hr36
  have hk32 := hk32.grow hr36
  have hGF := gt_low.plain gg36
  obtain ⟨f36, rfl, hs36, hk36, hn36⟩ := hq36
  have hn36 := hn36.low (hG.trans hg36)
  have hG := hG.trans hr36
  refine lx_bslR 37 (([f36] : List Fd).map Fd.cs) hGF rfl rfl rfl rows3 (by decide) (by decide) Try.underlying71 Try.sizeOf101 zvF rfl rfl ?_
  intro b37
  refine lx_bslV 38 [.slice a8 L8.length c8, .slice a13 L13.length c13, .slice a18 L18.length c18, .slice a22 L22.length c22, .slice a27 L27.length c27, .slice a32 L32.length c32, .slice (some ⟨b37, 0, none⟩) 1 1] hGF rfl rfl rfl (by decide) (by decide) Try.underlying126 Try.sizeOf71 Try.zeroValue71 rfl rfl rfl ?_
  intro b38
  have hM : (([⟨L8, a8, c8⟩, ⟨L13, a13, c13⟩, ⟨L18, a18, c18⟩, ⟨L22, a22, c22⟩, ⟨L27, a27, c27⟩, ⟨L32, a32, c32⟩, ⟨[f36], some ⟨b37, 0, none⟩, 1⟩] : List Pl).flatMap Pl.L).map Fd.s = upS n := by simp only [List.flatMap_cons, List.flatMap_nil, List.append_nil, List.map_append, List.map_cons, List.map_nil, hs8, hs13, hs18, hs22, hs27, hs32, hs36]; rfl
  have hMl : (([⟨L8, a8, c8⟩, ⟨L13, a13, c13⟩, ⟨L18, a18, c18⟩, ⟨L22, a22, c22⟩, ⟨L27, a27, c27⟩, ⟨L32, a32, c32⟩, ⟨[f36], some ⟨b37, 0, none⟩, 1⟩] : List Pl).flatMap Pl.L).length = (upS n).length := by rw [← hM, List.length_map]
  refine lx_callWL gt_low (M := fun _ => False) (fun k h => h.elim) rfl rfl ent55 rfl rfl hGF (Q := fun w1 w2 v => ∃ bl c, v = .slice (some ⟨bl, 0, none⟩) (([⟨L8, a8, c8⟩, ⟨L13, a13, c13⟩, ⟨L18, a18, c18⟩, ⟨L22, a22, c22⟩, ⟨L27, a27, c27⟩, ⟨L32, a32, c32⟩, ⟨[f36], some ⟨b37, 0, none⟩, 1⟩] : List Pl).flatMap Pl.L).length c ∧ (([⟨L8, a8, c8⟩, ⟨L13, a13, c13⟩, ⟨L18, a18, c18⟩, ⟨L22, a22, c22⟩, ⟨L27, a27, c27⟩, ⟨L32, a32, c32⟩, ⟨[f36], some ⟨b37, 0, none⟩, 1⟩] : List Pl).flatMap Pl.L).length ≤ c ∧ w2.rangeAt bl 0 ((([⟨L8, a8, c8⟩, ⟨L13, a13, c13⟩, ⟨L18, a18, c18⟩, ⟨L22, a22, c22⟩, ⟨L27, a27, c27⟩, ⟨L32, a32, c32⟩, ⟨[f36], some ⟨b37, 0, none⟩, 1⟩] : List Pl).flatMap Pl.L).flatMap Fd.cs) ∧ w1.heap.size ≤ bl) (fun w1 hC g1 => (con_calls ([⟨L8, a8, c8⟩, ⟨L13, a13, c13⟩, ⟨L18, a18, c18⟩, ⟨L22, a22, c22⟩, ⟨L27, a27, c27⟩, ⟨L32, a32, c32⟩, ⟨[f36], some ⟨b37, 0, none⟩, 1⟩] : List Pl) b38 (by decide : 7 ≤ 100) (by rw [hMl]; exact (by decide : 0 < 26)) (by rw [hMl]; exact (by decide : 26 ≤ 1000)) w1 g1 (hp_row (n := 38) rfl w1 hC) (List.forall_mem_cons.2 ⟨⟨hc8.grow (hp_below hC), hl8, ne_sp hs8⟩, List.forall_mem_cons.2 ⟨⟨hc13.grow (hp_below hC), hl13, ne_sp hs13⟩, List.forall_mem_cons.2 ⟨⟨hc18.grow (hp_below hC), hl18, ne_sp hs18⟩, List.forall_mem_cons.2 ⟨⟨hc22.grow (hp_below hC), hl22, ne_sp hs22⟩, List.forall_mem_cons.2 ⟨⟨hc27.grow (hp_below hC), hl27, ne_sp hs27⟩, List.forall_mem_cons.2 ⟨⟨hc32.grow (hp_below hC), hl32, ne_sp hs32⟩, List.forall_mem_cons.2 ⟨⟨by show CellsAt w1 _ (([f36] : List Fd).map Fd.cs).flatten; exact CellsAt.range (hp_row (n := 37) rfl w1 hC), Nat.le_refl _, by simp⟩, fun _ h => by cases h⟩⟩⟩⟩⟩⟩⟩)).mono fun e w2 ⟨a, c, q1, q2, q3, q4⟩ => ⟨_, q1, grow_mm q2, a, c, rfl, q3, q4⟩) (fun w8 w9 v hC hm9 g9 hq => ?_)
  obtain ⟨a9, c9, rfl, hle9, hce9, hnb9⟩ := hq
  have hr9 := (hp_below hC).trans (hm9.grow (fun _ _ h => h))
  refine lx_assign rfl rfl rfl ?_
  refine lx_nil ?_
  refine x_ret ?_
  repeat (first | refine kseq_ret ?_ | refine kblk_ret ?_)
  refine kret_tmp rfl rfl (fun w' hw' => ⟨_, rfl, (hG.trans hr9).trans (hp_below hw'), _, a9, c9, rfl, hle9, hM, rg_g hce9 (hp_below hw'), Nat.le_trans (hG.trans (hp_below hC)).size hnb9, fun f hf => ?_⟩)
  simp only [List.flatMap_cons, List.flatMap_nil, List.append_nil, List.mem_append] at hf
  rcases hf with hf | hf | hf | hf | hf | hf | hf
  · exact ⟨((hk8.h f hf).grow hr9).grow (hp_below hw'), hn8 f hf⟩
  · exact ⟨((hk13.h f hf).grow hr9).grow (hp_below hw'), hn13 f hf⟩
  · exact ⟨((hk18.h f hf).grow hr9).grow (hp_below hw'), hn18 f hf⟩
  · exact ⟨((hk22.h f hf).grow hr9).grow (hp_below hw'), hn22 f hf⟩
  · exact ⟨((hk27.h f hf).grow hr9).grow (hp_below hw'), hn27 f hf⟩
  · exact ⟨((hk32.h f hf).grow hr9).grow (hp_below hw'), hn32 f hf⟩
  · obtain rfl := List.mem_singleton.1 hf; exact ⟨(hk36.grow hr9).grow (hp_below hw'), hn36⟩
theorem fi_calls (b n : Nat) (hn : n ≤ 1000) (w : World) (hw : Gt w) : Calls Try.prog 39 [pt b 0, I (n : Int)].toArray w (fun e w' => ∃ v, e = .returned v ∧ Grow w w' ∧ LsX w w' b (fiS n) v) := by
  have hGF : BOk Gt (pl w) := gt_low.plain hw
  refine calls_of_X (G := Gt) Try.func39 rfl rfl (Hp (pl w) []) (hp_refl (pl w) trivial rides_true) (good_hp hGF) ?_
  refine xs_plain (E := EE [55, 56, 58, 59, 60]) ?_
  refine lx_assign rfl rfl rfl ?_
  refine lx_nil ?_
  refine xs_draws (E := EE [55, 56, 58, 59, 60]) [0, 1, 2, 4, 5, 6, 8, 9, 10, 11, 13, 14, 15, 16, 18, 19, 20, 3, 7, 12, 17, 21, 22, 23, 24, 25] mixed rfl (by kernel_rfl) (by kernel_rfl) (by kernel_rfl) ?_
  refine lx_move rfl rfl rfl ?_
  refine lx_nilc rfl rfl rfl ?_
  refine lx_fak (0) rfl Try.underlying40 rfl Try.sizeOf26 (by decide) rfl rfl rfl ?_
  refine lx_move rfl rfl rfl ?_
  refine lx_nilc rfl rfl rfl ?_
  refine lx_fak (307) rfl Try.underlying40 rfl Try.sizeOf26 (by decide) rfl rfl rfl ?_
  refine lx_move rfl rfl rfl ?_
  refine lx_nilc rfl rfl rfl ?_
  refine lx_fak (405) rfl Try.underlying40 rfl Try.sizeOf33 (by decide) rfl rfl rfl ?_
  refine lx_slarr0 rfl Try.underlying33 Try.sizeOf24 (by decide) rfl rfl ?_
  refine lx_move rfl rfl rfl ?_
  refine lx_nilc rfl rfl rfl ?_
  refine lx_fak (597) rfl Try.underlying40 rfl Try.sizeOf38 (by decide) rfl rfl rfl ?_
  refine lx_move rfl rfl rfl ?_
  refine lx_move rfl rfl rfl ?_
  refine lx_nilc rfl rfl rfl ?_
  refine lx_fak (694) rfl Try.underlying40 rfl Try.sizeOf22 (by decide) rfl rfl rfl ?_
  refine lx_callW gt_low (M := fun _ => False) (fun k h => h.elim) rfl rfl ent56 rfl rfl hGF (Q := fun w1 w2 v => LsR w1 w2 b (hdS 0) v) (fun w1 h1 g1 => (hd_calls b 0 w1 g1).mono fun e w2 ⟨v, q1, q2, q3⟩ => ⟨v, q1, grow_mm q2, q3⟩) (fun w8a w8 v8 hg8 hm8 gg8 hq8 => ?_)
  have hm8 := hm8.grow (fun _ _ h => h)
  have hr8 := hg8.trans hm8
  have hGF := gt_low.plain gg8
  obtain ⟨L8, a8, c8, rfl, hl8, hs8, hc8, hx8⟩ := hq8
  have hk8 : AllOk b L8 w8 := ⟨fun f hf => (hx8 f hf).1⟩
  have hn8 := fun f hf => (hx8 f hf).2
  have hn8 := fun f hf => (hn8 f hf).low hg8
  have hG := hr8
  refine lx_callW gt_low (M := fun _ => False) (fun k h => h.elim) rfl rfl ent56 rfl rfl hGF (Q := fun w1 w2 v => LsR w1 w2 b (hdS 307) v) (fun w1 h1 g1 => (hd_calls b 307 w1 g1).mono fun e w2 ⟨v, q1, q2, q3⟩ => ⟨v, q1, grow_mm q2, q3⟩) (fun w12a w12 v12 hg12 hm12 gg12 hq12 => ?_)
  have hm12 := hm12.grow (fun _ _ h => h)
  have hr12 := hg12.trans hm12
  have hc8 := hc8.grow hr12
  have hk8 := hk8.grow hr12
  have hGF := gt_low.plain gg12
  obtain ⟨L12, a12, c12, rfl, hl12, hs12, hc12, hx12⟩ := hq12
  have hk12 : AllOk b L12 w12 := ⟨fun f hf => (hx12 f hf).1⟩
  have hn12 := fun f hf => (hx12 f hf).2
  have hn12 := fun f hf => (hn12 f hf).low (hG.trans hg12)
  have hG := hG.trans hr12
  refine lx_callW gt_low (M := fun _ => False) (fun k h => h.elim) rfl rfl ent58 rfl rfl hGF (Q := fun w1 w2 v => LsR w1 w2 b (brS 405 6) v) (fun w1 h1 g1 => (br_calls b 405 6 6 (by decide) w1 g1).mono fun e w2 ⟨v, q1, q2, q3⟩ => ⟨v, q1, grow_mm q2, q3⟩) (fun w17a w17 v17 hg17 hm17 gg17 hq17 => ?_)
  have hm17 := hm17.grow (fun _ _ h => h)
  have hr17 := hg17.trans hm17
  have hc8 := hc8.grow hr17
  have hk8 := hk8.grow hr17
  have hc12 := hc12.grow hr17
  have hk12 := hk12.grow hr17
  have hGF := gt_low.plain gg17
  obtain ⟨L17, a17, c17, rfl, hl17, hs17, hc17, hx17⟩ := hq17
  have hk17 : AllOk b L17 w17 := ⟨fun f hf => (hx17 f hf).1⟩
  have hn17 := fun f hf => (hx17 f hf).2
  have hn17 := fun f hf => (hn17 f hf).low (hG.trans hg17)
  have hG := hG.trans hr17
  refine lx_callW gt_low (M := fun _ => False) (fun k h => h.elim) rfl rfl ent59 rfl rfl hGF (Q := fun w1 w2 v => LsR w1 w2 b (agS 597 n) v) (fun w1 h1 g1 => (ag_calls b 597 n hn w1 g1).mono fun e w2 ⟨v, q1, q2, q3⟩ => ⟨v, q1, grow_mm q2, q3⟩) (fun w22a w22 v22 hg22 hm22 gg22 hq22 => ?_)
  have hm22 := hm22.grow (fun _ _ h => h)
  have hr22 := hg22.trans hm22
  have hc8 := hc8.grow hr22
  have hk8 := hk8.grow hr22
  have hc12 := hc12.grow hr22
  have hk12 := hk12.grow hr22
  have hc17 := hc17.grow hr22
  have hk17 := hk17.grow hr22
  have hGF := gt_low.plain gg22
  obtain ⟨L22, a22, c22, rfl, hl22, hs22, hc22, hx22⟩ := hq22
  have hk22 : AllOk b L22 w22 := ⟨fun f hf => (hx22 f hf).1⟩
  have hn22 := fun f hf => (hx22 f hf).2
  have hn22 := fun f hf => (hn22 f hf).low (hG.trans hg22)
  have hG := hG.trans hr22
  refine lx_callW gt_low (M := fun _ => False) (fun k h => h.elim) rfl rfl ent60 rfl rfl hGF (Q := fun w1 w2 v => FdR w1 w2 b ⟨0, 694, 0⟩ v) (fun w1 h1 g1 => (num_calls b 694 w1 g1).mono fun e w2 ⟨v, q1, q2, q3⟩ => ⟨v, q1, grow_mm q2, q3⟩) (fun w26a w26 v26 hg26 hm26 gg26 hq26 => ?_)
  have hm26 := hm26.grow (fun _ _ h => h)
  have hr26 := hg26.trans hm26
  have hc8 := hc8.grow hr26
  have hk8 := hk8.grow hr26
  have hc12 := hc12.grow hr26
  have hk12 := hk12.grow hr26
  have hc17 := hc17.grow hr26
  have hk17 := hk17.grow hr26
  have hc22 := hc22.grow hr26
  have hk22 := hk22.grow hr26
  have hGF := gt_low.plain gg26
  obtain ⟨f26, rfl, hs26, hk26, hn26⟩ := hq26
  have hn26 := hn26.low (hG.trans hg26)
  have hG := hG.trans hr26
  refine lx_bslR 27 (([f26] : List Fd).map Fd.cs) hGF rfl rfl rfl rows3 (by decide) (by decide) Try.underlying71 Try.sizeOf101 zvF rfl rfl ?_
  intro b27
  refine lx_bslV 28 [.slice a8 L8.length c8, .slice a12 L12.length c12, .slice a17 L17.length c17, .slice a22 L22.length c22, .slice (some ⟨b27, 0, none⟩) 1 1] hGF rfl rfl rfl (by decide) (by decide) Try.underlying126 Try.sizeOf71 Try.zeroValue71 rfl rfl rfl ?_
  intro b28
  have hM : (([⟨L8, a8, c8⟩, ⟨L12, a12, c12⟩, ⟨L17, a17, c17⟩, ⟨L22, a22, c22⟩, ⟨[f26], some ⟨b27, 0, none⟩, 1⟩] : List Pl).flatMap Pl.L).map Fd.s = fiS n := by simp only [List.flatMap_cons, List.flatMap_nil, List.append_nil, List.map_append, List.map_cons, List.map_nil, hs8, hs12, hs17, hs22, hs26]; rfl
  have hMl : (([⟨L8, a8, c8⟩, ⟨L12, a12, c12⟩, ⟨L17, a17, c17⟩, ⟨L22, a22, c22⟩, ⟨[f26], some ⟨b27, 0, none⟩, 1⟩] : List Pl).flatMap Pl.L).length = (fiS n).length := by rw [← hM, List.length_map]
  refine lx_callWL gt_low (M := fun _ => False) (fun k h => h.elim) rfl rfl ent55 rfl rfl hGF (Q := fun w1 w2 v => ∃ bl c, v = .slice (some ⟨bl, 0, none⟩) (([⟨L8, a8, c8⟩, ⟨L12, a12, c12⟩, ⟨L17, a17, c17⟩, ⟨L22, a22, c22⟩, ⟨[f26], some ⟨b27, 0, none⟩, 1⟩] : List Pl).flatMap Pl.L).length c ∧ (([⟨L8, a8, c8⟩, ⟨L12, a12, c12⟩, ⟨L17, a17, c17⟩, ⟨L22, a22, c22⟩, ⟨[f26], some ⟨b27, 0, none⟩, 1⟩] : List Pl).flatMap Pl.L).length ≤ c ∧ w2.rangeAt bl 0 ((([⟨L8, a8, c8⟩, ⟨L12, a12, c12⟩, ⟨L17, a17, c17⟩, ⟨L22, a22, c22⟩, ⟨[f26], some ⟨b27, 0, none⟩, 1⟩] : List Pl).flatMap Pl.L).flatMap Fd.cs) ∧ w1.heap.size ≤ bl) (fun w1 hC g1 => (con_calls ([⟨L8, a8, c8⟩, ⟨L12, a12, c12⟩, ⟨L17, a17, c17⟩, ⟨L22, a22, c22⟩, ⟨[f26], some ⟨b27, 0, none⟩, 1⟩] : List Pl) b28 (by decide : 5 ≤ 100) (by rw [hMl]; exact (by decide : 0 < 19)) (by rw [hMl]; exact (by decide : 19 ≤ 1000)) w1 g1 (hp_row (n := 28) rfl w1 hC) (List.forall_mem_cons.2 ⟨⟨hc8.grow (hp_below hC), hl8, ne_sp hs8⟩, List.forall_mem_cons.2 ⟨⟨hc12.grow (hp_below hC), hl12, ne_sp hs12⟩, List.forall_mem_cons.2 ⟨⟨hc17.grow (hp_below hC), hl17, ne_sp hs17⟩, List.forall_mem_cons.2 ⟨⟨hc22.grow (hp_below hC), hl22, ne_sp hs22⟩, List.forall_mem_cons.2 ⟨⟨by show CellsAt w1 _ (([f26] : List Fd).map Fd.cs).flatten; exact CellsAt.range (hp_row (n := 27) rfl w1 hC), Nat.le_refl _, by simp⟩, fun _ h => by cases h⟩⟩⟩⟩⟩)).mono fun e w2 ⟨a, c, q1, q2, q3, q4⟩ => ⟨_, q1, grow_mm q2, a, c, rfl, q3, q4⟩) (fun w8 w9 v hC hm9 g9 hq => ?_)
  obtain ⟨a9, c9, rfl, hle9, hce9, hnb9⟩ := hq
  have hr9 := (hp_below hC).trans (hm9.grow (fun _ _ h => h))
  refine lx_assign rfl rfl rfl ?_
  refine lx_nil ?_
  refine x_ret ?_
  repeat (first | refine kseq_ret ?_ | refine kblk_ret ?_)
  refine kret_tmp rfl rfl (fun w' hw' => ⟨_, rfl, (hG.trans hr9).trans (hp_below hw'), _, a9, c9, rfl, hle9, hM, rg_g hce9 (hp_below hw'), Nat.le_trans (hG.trans (hp_below hC)).size hnb9, fun f hf => ?_⟩)
  simp only [List.flatMap_cons, List.flatMap_nil, List.append_nil, List.mem_append] at hf
  rcases hf with hf | hf | hf | hf | hf
  · exact ⟨((hk8.h f hf).grow hr9).grow (hp_below hw'), hn8 f hf⟩
  · exact ⟨((hk12.h f hf).grow hr9).grow (hp_below hw'), hn12 f hf⟩
  · exact ⟨((hk17.h f hf).grow hr9).grow (hp_below hw'), hn17 f hf⟩
  · exact ⟨((hk22.h f hf).grow hr9).grow (hp_below hw'), hn22 f hf⟩
  · obtain rfl := List.mem_singleton.1 hf; exact ⟨(hk26.grow hr9).grow (hp_below hw'), hn26⟩
theorem op_calls (b n : Nat) (hn : n ≤ 1000) (w : World) (hw : Gt w) : Calls Try.prog 40 [pt b 0, I (n : Int)].toArray w (fun e w' => ∃ v, e = .returned v ∧ Grow w w' ∧ LsX w w' b (opS n) v) := by
  have hGF : BOk Gt (pl w) := gt_low.plain hw
  refine calls_of_X (G := Gt) Try.func40 rfl rfl (Hp (pl w) []) (hp_refl (pl w) trivial rides_true) (good_hp hGF) ?_
  refine xs_plain (E := EE [55, 56, 59, 60]) ?_
  refine lx_assign rfl rfl rfl ?_
  refine lx_nil ?_
  refine xs_draws (E := EE [55, 56, 59, 60]) [0, 1, 2, 4, 5, 6, 7, 9, 10, 11, 3, 8, 12, 13, 14, 15, 16] mixed rfl (by kernel_rfl) (by kernel_rfl) (by kernel_rfl) ?_
  refine lx_move rfl rfl rfl ?_
  refine lx_nilc rfl rfl rfl ?_
  refine lx_fak (0) rfl Try.underlying40 rfl Try.sizeOf26 (by decide) rfl rfl rfl ?_
  refine lx_move rfl rfl rfl ?_
  refine lx_nilc rfl rfl rfl ?_
  refine lx_fak (597) rfl Try.underlying40 rfl Try.sizeOf38 (by decide) rfl rfl rfl ?_
  refine lx_move rfl rfl rfl ?_
  refine lx_move rfl rfl rfl ?_
  refine lx_nilc rfl rfl rfl ?_
  refine lx_fak (694) rfl Try.underlying40 rfl Try.sizeOf22 (by decide) rfl rfl rfl ?_
  refine lx_callW gt_low (M := fun _ => False) (fun k h => h.elim) rfl rfl ent56 rfl rfl hGF (Q := fun w1 w2 v => LsR w1 w2 b (hdS 0) v) (fun w1 h1 g1 => (hd_calls b 0 w1 g1).mono fun e w2 ⟨v, q1, q2, q3⟩ => ⟨v, q1, grow_mm q2, q3⟩) (fun w8a w8 v8 hg8 hm8 gg8 hq8 => ?_)
  have hm8 := hm8.grow (fun _ _ h => h)
  have hr8 := hg8.trans hm8
  have hGF := gt_low.plain gg8
  obtain ⟨L8, a8, c8, rfl, hl8, hs8, hc8, hx8⟩ := hq8
  have hk8 : AllOk b L8 w8 := ⟨fun f hf => (hx8 f hf).1⟩
  have hn8 := fun f hf => (hx8 f hf).2
  have hn8 := fun f hf => (hn8 f hf).low hg8
  have hG := hr8
  refine lx_callW gt_low (M := fun _ => False) (fun k h => h.elim) rfl rfl ent59 rfl rfl hGF (Q := fun w1 w2 v => LsR w1 w2 b (agS 597 n) v) (fun w1 h1 g1 => (ag_calls b 597 n hn w1 g1).mono fun e w2 ⟨v, q1, q2, q3⟩ => ⟨v, q1, grow_mm q2, q3⟩) (fun w13a w13 v13 hg13 hm13 gg13 hq13 => ?_)
  have hm13 := hm13.grow (fun _ _ h => h)
  have hr13 := hg13.trans hm13
  have hc8 := hc8.grow hr13
  have hk8 := hk8.grow hr13
  have hGF := gt_low.plain gg13
  obtain ⟨L13, a13, c13, rfl, hl13, hs13, hc13, hx13⟩ := hq13
  have hk13 : AllOk b L13 w13 := ⟨fun f hf => (hx13 f hf).1⟩
  have hn13 := fun f hf => (hx13 f hf).2
  have hn13 := fun f hf => (hn13 f hf).low (hG.trans hg13)
  have hG := hG.trans hr13
  refine lx_callW gt_low (M := fun _ => False) (fun k h => h.elim) rfl rfl ent60 rfl rfl hGF (Q := fun w1 w2 v => FdR w1 w2 b ⟨0, 694, 0⟩ v) (fun w1 h1 g1 => (num_calls b 694 w1 g1).mono fun e w2 ⟨v, q1, q2, q3⟩ => ⟨v, q1, grow_mm q2, q3⟩) (fun w17a w17 v17 hg17 hm17 gg17 hq17 => ?_)
  have hm17 := hm17.grow (fun _ _ h => h)
  have hr17 := hg17.trans hm17
  have hc8 := hc8.grow hr17
  have hk8 := hk8.grow hr17
  have hc13 := hc13.grow hr17
  have hk13 := hk13.grow hr17
  have hGF := gt_low.plain gg17
  obtain ⟨f17, rfl, hs17, hk17, hn17⟩ := hq17
  have hn17 := hn17.low (hG.trans hg17)
  have hG := hG.trans hr17
  refine lx_bslR 18 (([f17] : List Fd).map Fd.cs) hGF rfl rfl rfl rows3 (by decide) (by decide) Try.underlying71 Try.sizeOf101 zvF rfl rfl ?_
  intro b18
  refine lx_bslV 19 [.slice a8 L8.length c8, .slice a13 L13.length c13, .slice (some ⟨b18, 0, none⟩) 1 1] hGF rfl rfl rfl (by decide) (by decide) Try.underlying126 Try.sizeOf71 Try.zeroValue71 rfl rfl rfl ?_
  intro b19
  have hM : (([⟨L8, a8, c8⟩, ⟨L13, a13, c13⟩, ⟨[f17], some ⟨b18, 0, none⟩, 1⟩] : List Pl).flatMap Pl.L).map Fd.s = opS n := by simp only [List.flatMap_cons, List.flatMap_nil, List.append_nil, List.map_append, List.map_cons, List.map_nil, hs8, hs13, hs17]; rfl
  have hMl : (([⟨L8, a8, c8⟩, ⟨L13, a13, c13⟩, ⟨[f17], some ⟨b18, 0, none⟩, 1⟩] : List Pl).flatMap Pl.L).length = (opS n).length := by rw [← hM, List.length_map]
  refine lx_callWL gt_low (M := fun _ => False) (fun k h => h.elim) rfl rfl ent55 rfl rfl hGF (Q := fun w1 w2 v => ∃ bl c, v = .slice (some ⟨bl, 0, none⟩) (([⟨L8, a8, c8⟩, ⟨L13, a13, c13⟩, ⟨[f17], some ⟨b18, 0, none⟩, 1⟩] : List Pl).flatMap Pl.L).length c ∧ (([⟨L8, a8, c8⟩, ⟨L13, a13, c13⟩, ⟨[f17], some ⟨b18, 0, none⟩, 1⟩] : List Pl).flatMap Pl.L).length ≤ c ∧ w2.rangeAt bl 0 ((([⟨L8, a8, c8⟩, ⟨L13, a13, c13⟩, ⟨[f17], some ⟨b18, 0, none⟩, 1⟩] : List Pl).flatMap Pl.L).flatMap Fd.cs) ∧ w1.heap.size ≤ bl) (fun w1 hC g1 => (con_calls ([⟨L8, a8, c8⟩, ⟨L13, a13, c13⟩, ⟨[f17], some ⟨b18, 0, none⟩, 1⟩] : List Pl) b19 (by decide : 3 ≤ 100) (by rw [hMl]; exact (by decide : 0 < 8)) (by rw [hMl]; exact (by decide : 8 ≤ 1000)) w1 g1 (hp_row (n := 19) rfl w1 hC) (List.forall_mem_cons.2 ⟨⟨hc8.grow (hp_below hC), hl8, ne_sp hs8⟩, List.forall_mem_cons.2 ⟨⟨hc13.grow (hp_below hC), hl13, ne_sp hs13⟩, List.forall_mem_cons.2 ⟨⟨by show CellsAt w1 _ (([f17] : List Fd).map Fd.cs).flatten; exact CellsAt.range (hp_row (n := 18) rfl w1 hC), Nat.le_refl _, by simp⟩, fun _ h => by cases h⟩⟩⟩)).mono fun e w2 ⟨a, c, q1, q2, q3, q4⟩ => ⟨_, q1, grow_mm q2, a, c, rfl, q3, q4⟩) (fun w8 w9 v hC hm9 g9 hq => ?_)
  obtain ⟨a9, c9, rfl, hle9, hce9, hnb9⟩ := hq
  have hr9 := (hp_below hC).trans (hm9.grow (fun _ _ h => h))
  refine lx_assign rfl rfl rfl ?_
  refine lx_nil ?_
  refine x_ret ?_
  repeat (first | refine kseq_ret ?_ | refine kblk_ret ?_)
  refine kret_tmp rfl rfl (fun w' hw' => ⟨_, rfl, (hG.trans hr9).trans (hp_below hw'), _, a9, c9, rfl, hle9, hM, rg_g hce9 (hp_below hw'), Nat.le_trans (hG.trans (hp_below hC)).size hnb9, fun f hf => ?_⟩)
  simp only [List.flatMap_cons, List.flatMap_nil, List.append_nil, List.mem_append] at hf
  rcases hf with hf | hf | hf
  · exact ⟨((hk8.h f hf).grow hr9).grow (hp_below hw'), hn8 f hf⟩
  · exact ⟨((hk13.h f hf).grow hr9).grow (hp_below hw'), hn13 f hf⟩
  · obtain rfl := List.mem_singleton.1 hf; exact ⟨(hk17.grow hr9).grow (hp_below hw'), hn17⟩
theorem bo_calls (b n : Nat) (hn : n ≤ 1000) (w : World) (hw : Gt w) : Calls Try.prog 41 [pt b 0, I (n : Int)].toArray w (fun e w' => ∃ v, e = .returned v ∧ Grow w w' ∧ LsX w w' b (boS n) v) := by
  have hGF : BOk Gt (pl w) := gt_low.plain hw
  refine calls_of_X (G := Gt) Try.func41 rfl rfl (Hp (pl w) []) (hp_refl (pl w) trivial rides_true) (good_hp hGF) ?_
  refine xs_plain (E := EE [55, 56, 57, 58]) ?_
  refine lx_assign rfl rfl rfl ?_
  refine lx_nil ?_
  refine xs_draws (E := EE [55, 56, 57, 58]) [0, 1, 2, 4, 5, 6, 7, 9, 10, 11, 12, 3, 8, 13, 14, 15, 16] mixed rfl (by kernel_rfl) (by kernel_rfl) (by kernel_rfl) ?_
  refine lx_move rfl rfl rfl ?_
  refine lx_nilc rfl rfl rfl ?_
  refine lx_fak (0) rfl Try.underlying42 rfl Try.sizeOf26 (by decide) rfl rfl rfl ?_
  refine lx_move rfl rfl rfl ?_
  refine lx_nilc rfl rfl rfl ?_
  refine lx_fak (98) rfl Try.underlying42 rfl Try.sizeOf31 (by decide) rfl rfl rfl ?_
  refine lx_move rfl rfl rfl ?_
  refine lx_move rfl rfl rfl ?_
  refine lx_nilc rfl rfl rfl ?_
  refine lx_fak (147) rfl Try.underlying42 rfl Try.sizeOf32 (by decide) rfl rfl rfl ?_
  refine lx_slarr0 rfl Try.underlying32 Try.sizeOf24 (by decide) rfl rfl ?_
  refine lx_callW gt_low (M := fun _ => False) (fun k h => h.elim) rfl rfl ent56 rfl rfl hGF (Q := fun w1 w2 v => LsR w1 w2 b (hdS 0) v) (fun w1 h1 g1 => (hd_calls b 0 w1 g1).mono fun e w2 ⟨v, q1, q2, q3⟩ => ⟨v, q1, grow_mm q2, q3⟩) (fun w8a w8 v8 hg8 hm8 gg8 hq8 => ?_)
  have hm8 := hm8.grow (fun _ _ h => h)
  have hr8 := hg8.trans hm8
  have hGF := gt_low.plain gg8
  obtain ⟨L8, a8, c8, rfl, hl8, hs8, hc8, hx8⟩ := hq8
  have hk8 : AllOk b L8 w8 := ⟨fun f hf => (hx8 f hf).1⟩
  have hn8 := fun f hf => (hx8 f hf).2
  have hn8 := fun f hf => (hn8 f hf).low hg8
  have hG := hr8
  refine lx_callW gt_low (M := fun _ => False) (fun k h => h.elim) rfl rfl ent57 rfl rfl hGF (Q := fun w1 w2 v => LsR w1 w2 b (coS 98 n) v) (fun w1 h1 g1 => (co_calls b 98 n hn w1 g1).mono fun e w2 ⟨v, q1, q2, q3⟩ => ⟨v, q1, grow_mm q2, q3⟩) (fun w13a w13 v13 hg13 hm13 gg13 hq13 => ?_)
  have hm13 := hm13.grow (fun _ _ h => h)
  have hr13 := hg13.trans hm13
  have hc8 := hc8.grow hr13
  have hk8 := hk8.grow hr13
  have hGF := gt_low.plain gg13
  obtain ⟨L13, a13, c13, rfl, hl13, hs13, hc13, hx13⟩ := hq13
  have hk13 : AllOk b L13 w13 := ⟨fun f hf => (hx13 f hf).1⟩
  have hn13 := fun f hf => (hx13 f hf).2
  have hn13 := fun f hf => (hn13 f hf).low (hG.trans hg13)
  have hG := hG.trans hr13
  refine lx_callW gt_low (M := fun _ => False) (fun k h => h.elim) rfl rfl ent58 rfl rfl hGF (Q := fun w1 w2 v => LsR w1 w2 b (brS 147 5) v) (fun w1 h1 g1 => (br_calls b 147 5 5 (by decide) w1 g1).mono fun e w2 ⟨v, q1, q2, q3⟩ => ⟨v, q1, grow_mm q2, q3⟩) (fun w18a w18 v18 hg18 hm18 gg18 hq18 => ?_)
  have hm18 := hm18.grow (fun _ _ h => h)
  have hr18 := hg18.trans hm18
  have hc8 := hc8.grow hr18
  have hk8 := hk8.grow hr18
  have hc13 := hc13.grow hr18
  have hk13 := hk13.grow hr18
  have hGF := gt_low.plain gg18
  obtain ⟨L18, a18, c18, rfl, hl18, hs18, hc18, hx18⟩ := hq18
  have hk18 : AllOk b L18 w18 := ⟨fun f hf => (hx18 f hf).1⟩
  have hn18 := fun f hf => (hx18 f hf).2
  have hn18 := fun f hf => (hn18 f hf).low (hG.trans hg18)
  have hG := hG.trans hr18
  refine lx_bslV 19 [.slice a8 L8.length c8, .slice a13 L13.length c13, .slice a18 L18.length c18] hGF rfl rfl rfl (by decide) (by decide) Try.underlying126 Try.sizeOf71 Try.zeroValue71 rfl rfl rfl ?_
  intro b19
  have hM : (([⟨L8, a8, c8⟩, ⟨L13, a13, c13⟩, ⟨L18, a18, c18⟩] : List Pl).flatMap Pl.L).map Fd.s = boS n := by simp only [List.flatMap_cons, List.flatMap_nil, List.append_nil, List.map_append, hs8, hs13, hs18]; rfl
  have hMl : (([⟨L8, a8, c8⟩, ⟨L13, a13, c13⟩, ⟨L18, a18, c18⟩] : List Pl).flatMap Pl.L).length = (boS n).length := by rw [← hM, List.length_map]
  refine lx_callWL gt_low (M := fun _ => False) (fun k h => h.elim) rfl rfl ent55 rfl rfl hGF (Q := fun w1 w2 v => ∃ bl c, v = .slice (some ⟨bl, 0, none⟩) (([⟨L8, a8, c8⟩, ⟨L13, a13, c13⟩, ⟨L18, a18, c18⟩] : List Pl).flatMap Pl.L).length c ∧ (([⟨L8, a8, c8⟩, ⟨L13, a13, c13⟩, ⟨L18, a18, c18⟩] : List Pl).flatMap Pl.L).length ≤ c ∧ w2.rangeAt bl 0 ((([⟨L8, a8, c8⟩, ⟨L13, a13, c13⟩, ⟨L18, a18, c18⟩] : List Pl).flatMap Pl.L).flatMap Fd.cs) ∧ w1.heap.size ≤ bl) (fun w1 hC g1 => (con_calls ([⟨L8, a8, c8⟩, ⟨L13, a13, c13⟩, ⟨L18, a18, c18⟩] : List Pl) b19 (by decide : 3 ≤ 100) (by rw [hMl]; exact (by decide : 0 < 12)) (by rw [hMl]; exact (by decide : 12 ≤ 1000)) w1 g1 (hp_row (n := 19) rfl w1 hC) (List.forall_mem_cons.2 ⟨⟨hc8.grow (hp_below hC), hl8, ne_sp hs8⟩, List.forall_mem_cons.2 ⟨⟨hc13.grow (hp_below hC), hl13, ne_sp hs13⟩, List.forall_mem_cons.2 ⟨⟨hc18.grow (hp_below hC), hl18, ne_sp hs18⟩, fun _ h => by cases h⟩⟩⟩)).mono fun e w2 ⟨a, c, q1, q2, q3, q4⟩ => ⟨_, q1, grow_mm q2, a, c, rfl, q3, q4⟩) (fun w8 w9 v hC hm9 g9 hq => ?_)
  obtain ⟨a9, c9, rfl, hle9, hce9, hnb9⟩ := hq
  have hr9 := (hp_below hC).trans (hm9.grow (fun _ _ h => h))
  refine lx_assign rfl rfl rfl ?_
  refine lx_nil ?_
  refine x_ret ?_
  repeat (first | refine kseq_ret ?_ | refine kblk_ret ?_)
  refine kret_tmp rfl rfl (fun w' hw' => ⟨_, rfl, (hG.trans hr9).trans (hp_below hw'), _, a9, c9, rfl, hle9, hM, rg_g hce9 (hp_below hw'), Nat.le_trans (hG.trans (hp_below hC)).size hnb9, fun f hf => ?_⟩)
  simp only [List.flatMap_cons, List.flatMap_nil, List.append_nil, List.mem_append] at hf
  rcases hf with hf | hf | hf
  · exact ⟨((hk8.h f hf).grow hr9).grow (hp_below hw'), hn8 f hf⟩
  · exact ⟨((hk13.h f hf).grow hr9).grow (hp_below hw'), hn13 f hf⟩
  · exact ⟨((hk18.h f hf).grow hr9).grow (hp_below hw'), hn18 f hf⟩
end Go.Proofs.Ytlaanjcnfindnaa
