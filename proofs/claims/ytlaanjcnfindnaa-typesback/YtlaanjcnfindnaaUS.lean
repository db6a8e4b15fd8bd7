/-
  The law that each thing is read back from its bytes as it was: the walk.
-/
import Derived.Test.YtlaanjcnfindnaaUW
namespace Go.Proofs.Ytlaanjcnfindnaa
open Go.RowKit
set_option maxRecDepth 100000
set_option maxHeartbeats 1000000

theorem zvR5 (w : World) : (zeroValue 32).run Try.prog w = .ok (.agg ((Zs 160).map U8).toArray) w := (Try.zeroValue32 w).trans (by rfl)
theorem zvR6 (w : World) : (zeroValue 33).run Try.prog w = .ok (.agg ((Zs 192).map U8).toArray) w := (Try.zeroValue33 w).trans (by rfl)
theorem bldCo0 (w : World) : (Instr.build 31 #[]).run Try.prog w = .ok (.agg Co0.toArray) w := run_buildP (c := Co0) zvCo Try.underlying31 (ps := #[(0, 1), (1, 48)]) (fun w => by simp [Try.sizeOf27, Try.sizeOf29]) [] rfl w
theorem bldHd0 (w : World) : (Instr.build 26 #[]).run Try.prog w = .ok (.agg Hd0.cs.toArray) w := run_buildP (c := Hd0.cs) zvHd Try.underlying26 (ps := #[(0, 1), (1, 1), (2, 32), (34, 32), (66, 32)]) (fun w => by simp [Try.sizeOf22, Try.sizeOf24]) [] rfl w
theorem U0_one3 : U0.all (·.oneCell') = true := by decide +kernel
theorem RwsAt.mm5 {s : Nat} {w w1 w2 : World} {a : Option Addr} {l : List By} {b : Nat} (h : RwsAt s w a l) (hg : Grow w w1) (hm : MM (fun k => k = b) w1 w2) (hn : l ≠ [] → ∀ k, Of a k → ¬ k = b) : RwsAt s w2 a l := (h.grow hg).mm hm hn
theorem back_law (hT : TypesP) (hKn : Kn) (u : Up) (hk : u.Ok) (hbc : u.sy.bs.length ≤ u.sy.bc) (b : Bo) (hkb2 : b.Ok) (n : Int) (w : World) (hw : Gt w) (hks0 : RwsAt 48 w u.nx.ka u.nx.ks) (hbs0 : CellsAt w u.sy.ba (u.sy.bs.map .bool)) (hkb0 : RwsAt 48 w b.nw.ka b.nw.ks) : Calls Try.prog 5 [.agg u.cs.toArray, .agg b.cs.toArray, I n].toArray w (fun e w' => e = .returned (.bool true) ∧ Grow w w') := by
  have hks := hks0
  have hbs := hbs0
  have hkb := hkb0
  have hGF : BOk Gt (pl w) := gt_low.plain hw
  refine calls_of_X (G := Gt) Try.func5 rfl rfl (Hp (pl w) []) (hp_refl (pl w) trivial rides_true) (good_hp hGF) ?_
  refine xs_plain (E := EE []) ?_
  refine lx_boxr 3 hGF rfl rfl rfl ?_
  intro b3
  refine lx_boxr 4 hGF rfl rfl rfl ?_
  intro b4
  refine lx_assign rfl rfl rfl ?_
  refine lx_nil ?_
  refine x_seq ?_
  refine xs_plain (E := EE []) ?_
  refine lx_callC rfl rfl ent9 (fun w1 _ hG => hKn w1 hG) rfl rfl ?_
  refine lx_un rfl (fun _ => un_not _) rfl rfl ?_
  refine lx_nil ?_
  refine x_false rfl ?_
  refine x_skip ?_
  refine xs_plain (E := EE [29]) ?_
  refine lx_move rfl rfl rfl ?_
  refine lx_callWL gt_low (M := fun _ => False) (fun k h => h.elim) rfl rfl ent29 rfl rfl hGF (Q := fun w1 w2 v => ∃ k : Nat, v = I (k : Int) ∧ k < 20) (fun w1 _ g1 => (plc_calls n 20 (by decide) (by decide) w1 g1).mono fun e w2 ⟨k, q1, q2, q3⟩ => ⟨_, q1, grow_mm q3, k, rfl, q2⟩) (fun w1 w2 v hC hm1 g2 hq => ?_)
  obtain ⟨kk, rfl, hkk⟩ := hq
  have hm1 := hm1.grow (fun _ _ h => h)
  have ho3 := (hC.own 3 _ _ _ rfl).1.grow hm1
  have ho4 := (hC.own 4 _ _ _ rfl).1.grow hm1
  have h3w : w.heap.size ≤ b3 := (hC.own 3 _ _ _ rfl).2.elim id False.elim
  have h4w : w.heap.size ≤ b4 := (hC.own 4 _ _ _ rfl).2.elim id False.elim
  have hne : ¬ b3 = b4 := fun h => absurd (hC.inj 3 4 b3 _ _ _ _ rfl (by rw [h]; rfl)) (by decide)
  have hW : Grow w w2 := (hp_below hC).trans hm1
  have hks := hks.grow hW
  have hbs := hbs.grow hW
  have hkb := hkb.grow hW
  clear hC hm1
  have hGF := gt_low.plain g2
  refine lx_bin (v := I ((kk + 1 : Nat) : Int)) rfl rfl (fun _ => rfl) (fun _ => (bin_add_i _ _ _ (by unfold inI; omega)).trans (by congr 2; omega)) rfl rfl ?_
  obtain ⟨m, hme⟩ : ∃ m, kk + 1 = m := ⟨_, rfl⟩
  rw [hme]
  have hm : 1 ≤ m ∧ m ≤ 20 := by omega
  clear hme hkk
  refine lx_assign rfl rfl rfl ?_
  refine lx_nil ?_
  refine x_now0 gt_low (fun wS hCS gS => ?_)
  have ho3S := ho3.grow (hp_below hCS)
  have ho4S := ho4.grow (hp_below hCS)
  have hksS := hks.grow (hp_below hCS)
  have hbsS := hbs.grow (hp_below hCS)
  have hkbS := hkb.grow (hp_below hCS)
  have ho3 := ho3S
  have ho4 := ho4S
  have hks := hksS
  have hbs := hbsS
  have hkb := hkbS
  have hWS := hW.trans (hp_below hCS)
  have hGF := gt_low.plain gS
  have hbl : b3 < wS.heap.size := ho3.lt
  have hbl2 : b4 < wS.heap.size := ho4.lt
  clear hCS
  obtain ⟨j, hj⟩ : ∃ j, min u.sy.bs.length m = j := ⟨_, rfl⟩
  refine xs_drawK (E := EE []) (fun X => X = (fun w' => w'.cell? ⟨b3, 597, none⟩ = some (.slice u.sy.ba u.sy.bs.length u.sy.bc))) mkAp (rkB [39]) [0, 1, 2, 3, 4, 5, 6, 7, 8, 9, 11, 12, 13, 14, 15, 16, 17, 18, 10, 19, 20, 21, 22] mixed rfl (by kernel_rfl) (by kernel_rfl) (by kernel_rfl) ?_
  refine lxk_s rfl rfl ?_
  refine lx_fak 597 rfl Try.underlying40 rfl Try.sizeOf38 (by decide) rfl rfl rfl ?_
  refine lx_nil ?_
  refine lxk_s rfl rfl ?_
  refine lx_fak 597 rfl Try.underlying38 rfl Try.sizeOf34 (by decide) rfl rfl rfl ?_
  refine lx_nil ?_
  refine lxk_s rfl rfl ?_
  refine lx_load (v := .slice u.sy.ba u.sy.bs.length u.sy.bc) rfl Try.isAgg34 (fun w' h => ((ho3.grow (hp_below h)).cell 597).trans (Up.at_bits hk)) rfl rfl ?_
  refine lx_nil ?_
  refine lxk_s rfl rfl ?_
  refine lx_fak 597 rfl Try.underlying40 rfl Try.sizeOf38 (by decide) rfl rfl rfl ?_
  refine lx_nil ?_
  refine lxk_s rfl rfl ?_
  refine lx_fak 597 rfl Try.underlying38 rfl Try.sizeOf34 (by decide) rfl rfl rfl ?_
  refine lx_nil ?_
  refine lxk_s rfl rfl ?_
  refine lx_load (v := .slice u.sy.ba u.sy.bs.length u.sy.bc) rfl Try.isAgg34 (fun w' h => ((ho3.grow (hp_below h)).cell 597).trans (Up.at_bits hk)) rfl rfl ?_
  refine lx_nil ?_
  refine lxk_s rfl rfl ?_
  refine lx_len rfl (fun _ => len_slice Try.underlying34 _ _ _ _) rfl rfl ?_
  refine lx_nil ?_
  refine lxk_s rfl rfl ?_
  refine lx_move rfl rfl rfl ?_
  refine lx_nil ?_
  refine lxk_s rfl rfl ?_
  refine lx_min (z := (j : Int)) rfl rfl (by split <;> omega) rfl rfl ?_
  refine lx_nil ?_
  refine lxk_s rfl rfl ?_
  refine lx_slsl (l := 0) (h' := j) rfl Try.underlying34 Try.sizeOf4 rfl rfl ⟨Nat.zero_le _, by omega⟩ rfl rfl ?_
  rw [cutS, Nat.sub_zero, Nat.sub_zero]
  refine lx_nil ?_
  refine lxk_s rfl rfl ?_
  refine lx_move rfl rfl rfl ?_
  refine lx_nil ?_
  refine lxk_s rfl rfl ?_
  refine lx_fak 597 rfl Try.underlying40 rfl Try.sizeOf38 (by decide) rfl rfl rfl ?_
  refine lx_nil ?_
  refine lxk_s rfl rfl ?_
  refine lx_fak 597 rfl Try.underlying38 rfl Try.sizeOf34 (by decide) rfl rfl rfl ?_
  refine lx_nil ?_
  refine lxk_q (X := fun w' => w'.cell? ⟨b3, 597, none⟩ = some (.slice u.sy.ba u.sy.bs.length u.sy.bc)) rfl (fun w' h => ((ho3.grow (hp_below h)).cell 597).trans (Up.at_bits hk)) (fun _ => rfl) ?_
  refine lx_load (v := .slice u.sy.ba u.sy.bs.length u.sy.bc) rfl Try.isAgg34 (fun w' h => h) rfl rfl ?_
  refine lx_nil ?_
  refine lxk_s rfl rfl ?_
  refine lx_len rfl (fun _ => len_slice Try.underlying34 _ _ _ _) rfl rfl ?_
  refine lx_nil ?_
  refine lxk_s rfl rfl ?_
  refine lx_move rfl rfl rfl ?_
  refine lx_nil ?_
  refine lxk_s rfl rfl ?_
  refine lx_min (z := (j : Int)) rfl rfl (by split <;> omega) rfl rfl ?_
  refine lx_nil ?_
  refine lxk_s rfl rfl ?_
  refine lx_bin (v := I (((m - j : Nat) : Int))) rfl rfl (fun _ => rfl) (fun _ => (bin_sub_i _ _ _ (by unfold inI; omega)).trans (by congr 2; omega)) rfl rfl ?_
  refine lx_nil ?_
  refine lxk_e rfl ?_
  refine lx_appX (xs := []) (ys := (u.sy.bs.take j).map .bool) (nx := 0) (ny := j) gt_low (fun w' h => hGF.g _ _ _ h) rfl rfl tiB rfl (fun w' h => .inl ⟨rfl, rfl, rfl, rfl⟩) (fun k _ => Nat.zero_le k) (fun w' h i hi hz hs hb => ASrc.of Try.underlying34 hi hz (by rw [hs]; exact src_cells Try.underlying34 (by decide) (by rw [List.length_map, List.length_take]; omega) (by rw [List.map_take]; exact (hbs.grow (hp_below h)).take _) (bools_one _))) (by omega) (by omega) rfl rfl (fun w3a w3 a1' c1' hC3 g3 hm3 hs3 ho3' => ?_)
  have hr3 := (hp_below hC3).trans (hm3.grow (fun k _ hk => by obtain ⟨_, e, _⟩ := hk; cases e))
  have hn3 : New wS a1' := fun ad e => (ho3' ad.block ⟨ad, e, rfl⟩).elim (fun ⟨_, e2, _⟩ => by cases e2) (fun h => Nat.le_trans (hp_below hC3).size h)
  have ho3 := ho3.grow hr3
  have ho4 := ho4.grow hr3
  have hks := hks.grow hr3
  have hbs := hbs.grow hr3
  have hkb := hkb.grow hr3
  have hGF := gt_low.plain g3
  rw [Nat.zero_add, List.nil_append] at hs3
  rw [Nat.zero_add]
  clear hm3 ho3' hC3
  refine lx_nil ?_
  refine ⟨fun _ X hX _ => by subst hX; exact fun w' h => ((ho3.grow (hp_below h)).cell 597).trans (Up.at_bits hk), ?_⟩
  refine lxk_e rfl ?_
  refine lx_appX (xs := (u.sy.bs.take j).map .bool) (ys := (Builtin.zeroCells (Value.bool false).cells (m - j)).toList) (nx := j) (ny := m - j) gt_low (fun w' h => hGF.g _ _ _ h) rfl rfl tiB rfl (fun w' h => hs3.grow (hp_below h)) (fun k _ => Nat.zero_le k) (fun w' h i hi hz hs hb => ASrc.zeros (n := m - j) (w := w') Try.underlying34 Try.underlying3 hi hz (by rw [hs]; rfl) (by rw [hs]; decide) (zb_one _) (by omega) (by rw [hb]; omega)) (by omega) (by omega) rfl rfl (fun w4a w4 a2 c2 hC4 g4 hm4 hs4 ho4' => ?_)
  have hr4 := hm4.grow0 (hr3.trans (hp_below hC4)) (fun k ⟨ad, e, hk⟩ => hk ▸ hn3 ad e)
  have hn4 : New wS a2 := fun ad e => (ho4' ad.block ⟨ad, e, rfl⟩).elim (fun ⟨ad2, e2, h2⟩ => h2 ▸ hn3 ad2 e2) (fun h => Nat.le_trans (Nat.le_trans hr3.size (hp_below hC4).size) h)
  have ho3 := ho3S.grow hr4
  have ho4 := ho4S.grow hr4
  have hks := hksS.grow hr4
  have hbs := hbsS.grow hr4
  have hkb := hkbS.grow hr4
  have hGF := gt_low.plain g4
  obtain ⟨L, hL⟩ : ∃ L, clip u.sy.bs m = L := ⟨_, rfl⟩
  have hLm : L.length = m := by rw [← hL, clip_len]
  have hs4 := slv1 hs4
  rw [zb_list, ← hj, ← clip_map, hL] at hs4
  rw [show j + (m - j) = L.length by omega]
  clear hs3 hm4 ho4' hC4
  refine lx_nil ?_
  refine ⟨fun _ X hX _ => by subst hX; exact fun w' h => ((ho3.grow (hp_below h)).cell 597).trans (Up.at_bits hk), ?_⟩
  refine lxk_s rfl rfl ?_
  refine lx_fak 597 rfl Try.underlying40 rfl Try.sizeOf38 (by decide) rfl rfl rfl ?_
  refine lx_nil ?_
  refine lxk_s rfl rfl ?_
  refine lx_fak 597 rfl Try.underlying38 rfl Try.sizeOf34 (by decide) rfl rfl rfl ?_
  refine lx_nil ?_
  refine lxk_e rfl ?_
  refine lx_st1W gt_low (fun w' h => hGF.g _ _ _ h) (fun w' h => ho3.grow (hp_below h)) (Nat.zero_le _) rfl rfl Try.sizeOf34 rfl (by rw [Up.len hk]; decide) rfl (fun w5a w5 hC5 g5 hm5 hoN => ?_)
  have hr5 := hr4.trans (hp_below hC5)
  have hnb : ∀ ad, a2 = some ad → ¬ ad.block = b3 := fun ad e h => by have := hn4 ad e; omega
  have ho4 := hm5.own (ho4.grow (hp_below hC5)) (fun h => hne h.symm)
  have hW := (hm5.grow0 (hWS.trans hr5) (fun k hk => hk ▸ h3w))
  rw [Up.bits_cs hk] at hoN
  have hbN : CellsAt w5 a2 (L.map .bool) := hm5.cells (hs4.cells.grow (hp_below hC5)) hnb
  have hksN := hks.grow (hp_below hC5)
  have hGF := gt_low.plain g5
  refine lx_nil ?_
  refine ⟨fun h => absurd h (by decide), ?_⟩
  refine lxk_nil ?_
  have hks : RwsAt 48 w5 u.nx.ka u.nx.ks := hks0.grow hW
  have hkb : RwsAt 48 w5 b.nw.ka b.nw.ks := hkb0.grow hW
  obtain ⟨u1, e1⟩ : ∃ x, x = u.bits L a2 c2 := ⟨_, rfl⟩
  rw [← e1] at hoN
  have ho3 := hoN
  have k1 : u1.Ok := by rw [e1]; exact Up.bits_ok hk L a2 c2
  have l1 : u1.sy.bs.length = m := by rw [e1]; exact hLm
  have hbs : CellsAt w5 u1.sy.ba (u1.sy.bs.map .bool) := by rw [e1]; exact hbN
  have hbx : ∀ k, Of u1.sy.ba k → u1.sy.bs.map Value.bool ≠ [] → ¬ k = b3 := fun k ⟨ad, e, hk⟩ _ h => by rw [e1] at e; exact hnb ad e (hk ▸ h)
  have hby4 : ∀ k, Of u1.sy.ba k → ¬ k = b4 := fun k ⟨ad, e, hk⟩ h => by rw [e1] at e; have := hn4 ad e; omega
  have h48 : ∀ r ∈ u1.nx.ks, r.length = 48 := k1.nx.ks
  have hcn := k1.nx.n
  have hks : RwsAt 48 w5 u1.nx.ka u1.nx.ks := by rw [e1]; exact hks
  clear e1 hoN hbN hs4 hL hLm hnb hn3 hn4 hr3 hr4 hr5 hm5 hC5 hj hWS
  refine x_now0 gt_low (fun wS hCS gS => ?_)
  have ho3S := ho3.grow (hp_below hCS)
  have ho4S := ho4.grow (hp_below hCS)
  have hksS := hks.grow (hp_below hCS)
  have hbsS := hbs.grow (hp_below hCS)
  have hkbS := hkb.grow (hp_below hCS)
  have ho3 := ho3S
  have ho4 := ho4S
  have hks := hksS
  have hbs := hbsS
  have hkb := hkbS
  have hWS := hW.trans (hp_below hCS)
  have hGF := gt_low.plain gS
  have hbl : b3 < wS.heap.size := ho3.lt
  have hbl2 : b4 < wS.heap.size := ho4.lt
  clear hCS
  obtain ⟨j, hj⟩ : ∃ j, min u1.nx.ks.length m = j := ⟨_, rfl⟩
  refine xs_drawK (E := EE []) (fun X => X = (fun w' => w'.cell? ⟨b3, 98, none⟩ = some (.slice u1.nx.ka u1.nx.ks.length u1.nx.kc))) mkAp (rkB [61]) [0, 1, 2, 3, 4, 5, 6, 7, 8, 9, 11, 12, 13, 14, 15, 16, 17, 18, 10, 19, 20, 21, 22] mixed rfl (by kernel_rfl) (by kernel_rfl) (by kernel_rfl) ?_
  refine lxk_s rfl rfl ?_
  refine lx_fak 98 rfl Try.underlying40 rfl Try.sizeOf31 (by decide) rfl rfl rfl ?_
  refine lx_nil ?_
  refine lxk_s rfl rfl ?_
  refine lx_fak 98 rfl Try.underlying31 rfl Try.sizeOf27 (by decide) rfl rfl rfl ?_
  refine lx_nil ?_
  refine lxk_s rfl rfl ?_
  refine lx_load (v := .slice u1.nx.ka u1.nx.ks.length u1.nx.kc) rfl Try.isAgg27 (fun w' h => ((ho3.grow (hp_below h)).cell 98).trans (Up.at_nx k1 0 _ rfl)) rfl rfl ?_
  refine lx_nil ?_
  refine lxk_s rfl rfl ?_
  refine lx_fak 98 rfl Try.underlying40 rfl Try.sizeOf31 (by decide) rfl rfl rfl ?_
  refine lx_nil ?_
  refine lxk_s rfl rfl ?_
  refine lx_fak 98 rfl Try.underlying31 rfl Try.sizeOf27 (by decide) rfl rfl rfl ?_
  refine lx_nil ?_
  refine lxk_s rfl rfl ?_
  refine lx_load (v := .slice u1.nx.ka u1.nx.ks.length u1.nx.kc) rfl Try.isAgg27 (fun w' h => ((ho3.grow (hp_below h)).cell 98).trans (Up.at_nx k1 0 _ rfl)) rfl rfl ?_
  refine lx_nil ?_
  refine lxk_s rfl rfl ?_
  refine lx_len rfl (fun _ => len_slice Try.underlying27 _ _ _ _) rfl rfl ?_
  refine lx_nil ?_
  refine lxk_s rfl rfl ?_
  refine lx_move rfl rfl rfl ?_
  refine lx_nil ?_
  refine lxk_s rfl rfl ?_
  refine lx_min (z := (j : Int)) rfl rfl (by split <;> omega) rfl rfl ?_
  refine lx_nil ?_
  refine lxk_s rfl rfl ?_
  refine lx_slsl (l := 0) (h' := j) rfl Try.underlying27 Try.sizeOf29 rfl rfl ⟨Nat.zero_le _, by omega⟩ rfl rfl ?_
  rw [cutS, Nat.sub_zero, Nat.sub_zero]
  refine lx_nil ?_
  refine lxk_s rfl rfl ?_
  refine lx_move rfl rfl rfl ?_
  refine lx_nil ?_
  refine lxk_s rfl rfl ?_
  refine lx_fak 98 rfl Try.underlying40 rfl Try.sizeOf31 (by decide) rfl rfl rfl ?_
  refine lx_nil ?_
  refine lxk_s rfl rfl ?_
  refine lx_fak 98 rfl Try.underlying31 rfl Try.sizeOf27 (by decide) rfl rfl rfl ?_
  refine lx_nil ?_
  refine lxk_q (X := fun w' => w'.cell? ⟨b3, 98, none⟩ = some (.slice u1.nx.ka u1.nx.ks.length u1.nx.kc)) rfl (fun w' h => ((ho3.grow (hp_below h)).cell 98).trans (Up.at_nx k1 0 _ rfl)) (fun _ => rfl) ?_
  refine lx_load (v := .slice u1.nx.ka u1.nx.ks.length u1.nx.kc) rfl Try.isAgg27 (fun w' h => h) rfl rfl ?_
  refine lx_nil ?_
  refine lxk_s rfl rfl ?_
  refine lx_len rfl (fun _ => len_slice Try.underlying27 _ _ _ _) rfl rfl ?_
  refine lx_nil ?_
  refine lxk_s rfl rfl ?_
  refine lx_move rfl rfl rfl ?_
  refine lx_nil ?_
  refine lxk_s rfl rfl ?_
  refine lx_min (z := (j : Int)) rfl rfl (by split <;> omega) rfl rfl ?_
  refine lx_nil ?_
  refine lxk_s rfl rfl ?_
  refine lx_bin (v := I (((m - j : Nat) : Int))) rfl rfl (fun _ => rfl) (fun _ => (bin_sub_i _ _ _ (by unfold inI; omega)).trans (by congr 2; omega)) rfl rfl ?_
  refine lx_nil ?_
  refine lxk_e rfl ?_
  refine lx_appX (xs := []) (ys := ((u1.nx.ks.take j).flatten).map U8) (nx := 0) (ny := j) gt_low (fun w' h => hGF.g _ _ _ h) rfl rfl tiK rfl (fun w' h => .inl ⟨rfl, rfl, rfl, rfl⟩) (fun k _ => Nat.zero_le k) (fun w' h i hi hz hs hb => ASrc.of Try.underlying27 hi hz (by rw [hs]; exact src_cells Try.underlying27 (by decide) (by rw [fl48 (fun r hr => h48 r (List.mem_of_mem_take hr)), List.length_take]; omega) (rws_cells (((hks.grow (hp_below h))).take j) (fun r hr => h48 r (List.mem_of_mem_take hr))) (u8s_one _))) (by omega) (by omega) rfl rfl (fun w3a w3 a1' c1' hC3 g3 hm3 hs3 ho3' => ?_)
  have hr3 := (hp_below hC3).trans (hm3.grow (fun k _ hk => by obtain ⟨_, e, _⟩ := hk; cases e))
  have hn3 : New wS a1' := fun ad e => (ho3' ad.block ⟨ad, e, rfl⟩).elim (fun ⟨_, e2, _⟩ => by cases e2) (fun h => Nat.le_trans (hp_below hC3).size h)
  have ho3 := ho3.grow hr3
  have ho4 := ho4.grow hr3
  have hks := hks.grow hr3
  have hbs := hbs.grow hr3
  have hkb := hkb.grow hr3
  have hGF := gt_low.plain g3
  rw [Nat.zero_add, List.nil_append] at hs3
  rw [Nat.zero_add]
  clear hm3 ho3' hC3
  refine lx_nil ?_
  refine ⟨fun _ X hX _ => by subst hX; exact fun w' h => ((ho3.grow (hp_below h)).cell 98).trans (Up.at_nx k1 0 _ rfl), ?_⟩
  refine lxk_e rfl ?_
  refine lx_appX (xs := ((u1.nx.ks.take j).flatten).map U8) (ys := (Builtin.zeroCells (Value.agg (Z48.map U8).toArray).cells (m - j)).toList) (nx := j) (ny := m - j) gt_low (fun w' h => hGF.g _ _ _ h) rfl rfl tiK rfl (fun w' h => hs3.grow (hp_below h)) (fun k _ => Nat.zero_le k) (fun w' h i hi hz hs hb => ASrc.zeros (n := m - j) (w := w') Try.underlying27 Try.underlying3 hi hz (by rw [hs]; rfl) (by rw [hs]; decide) (zk_one _) (by omega) (by rw [hb]; omega)) (by omega) (by omega) rfl rfl (fun w4a w4 a2 c2 hC4 g4 hm4 hs4 ho4' => ?_)
  have hr4 := hm4.grow0 (hr3.trans (hp_below hC4)) (fun k ⟨ad, e, hk⟩ => hk ▸ hn3 ad e)
  have hn4 : New wS a2 := fun ad e => (ho4' ad.block ⟨ad, e, rfl⟩).elim (fun ⟨ad2, e2, h2⟩ => h2 ▸ hn3 ad2 e2) (fun h => Nat.le_trans (Nat.le_trans hr3.size (hp_below hC4).size) h)
  have ho3 := ho3S.grow hr4
  have ho4 := ho4S.grow hr4
  have hks := hksS.grow hr4
  have hbs := hbsS.grow hr4
  have hkb := hkbS.grow hr4
  have hGF := gt_low.plain g4
  obtain ⟨K, hK⟩ : ∃ K, clipK u1.nx.ks m = K := ⟨_, rfl⟩
  have hKm : K.length = m := by rw [← hK, clipK_len]
  have hK48 : ∀ r ∈ K, r.length = 48 := by rw [← hK]; exact clipK_all h48 m
  rw [zk_list, ← hj, ← clipK_fl, hK] at hs4
  have hKc : K.length ≤ c2 := by have := slw_le hs4; omega
  have hrK := rws_of hs4 hK48
  rw [show j + (m - j) = K.length by omega]
  clear hs3 hm4 ho4' hC4
  refine lx_nil ?_
  refine ⟨fun _ X hX _ => by subst hX; exact fun w' h => ((ho3.grow (hp_below h)).cell 98).trans (Up.at_nx k1 0 _ rfl), ?_⟩
  refine lxk_s rfl rfl ?_
  refine lx_fak 98 rfl Try.underlying40 rfl Try.sizeOf31 (by decide) rfl rfl rfl ?_
  refine lx_nil ?_
  refine lxk_s rfl rfl ?_
  refine lx_fak 98 rfl Try.underlying31 rfl Try.sizeOf27 (by decide) rfl rfl rfl ?_
  refine lx_nil ?_
  refine lxk_e rfl ?_
  refine lx_st1W gt_low (fun w' h => hGF.g _ _ _ h) (fun w' h => ho3.grow (hp_below h)) (Nat.zero_le _) rfl rfl Try.sizeOf27 rfl (by rw [Up.len k1]; decide) rfl (fun w5a w5 hC5 g5 hm5 hoN => ?_)
  have hr5 := hr4.trans (hp_below hC5)
  have hnb : ∀ ad, a2 = some ad → ¬ ad.block = b3 := fun ad e h => by have := hn4 ad e; omega
  have ho4 := hm5.own (ho4.grow (hp_below hC5)) (fun h => hne h.symm)
  have hW := (hm5.grow0 (hWS.trans hr5) (fun k hk => hk ▸ h3w))
  rw [Up.keys_cs k1] at hoN
  have hkN : RwsAt 48 w5 a2 K := (hrK.grow (hp_below hC5)).mm hm5 (fun _ k ⟨ad, e, hk⟩ h => hnb ad e (hk ▸ h))
  have hbs : CellsAt w5 u1.sy.ba (u1.sy.bs.map .bool) := cells_mm (hbs.grow (hp_below hC5)) hm5 (fun hx k hk h => by have := cells_lt hbsS hx k hk; have hq := hbx k hk hx; omega)
  have hGF := gt_low.plain g5
  refine lx_nil ?_
  refine ⟨fun h => absurd h (by decide), ?_⟩
  refine lxk_nil ?_
  have hkb : RwsAt 48 w5 b.nw.ka b.nw.ks := hkb0.grow hW
  obtain ⟨u2, e2⟩ : ∃ x, x = u1.keys K a2 c2 := ⟨_, rfl⟩
  rw [← e2] at hoN
  have ho3 := hoN
  have k2 : u2.Ok := by rw [e2]; exact Up.keys_ok k1 hK48 hKc
  have l2 : u2.sy.bs.length = m := by rw [e2]; exact l1
  have l3 : u2.nx.ks.length = m := by rw [e2]; exact hKm
  have hks : RwsAt 48 w5 u2.nx.ka u2.nx.ks := by rw [e2]; exact hkN
  have hkx4 : ∀ k, Of u2.nx.ka k → u2.nx.ks ≠ [] → ¬ k = b4 := fun k ⟨ad, e, hk⟩ _ h => by rw [e2] at e; have := hn4 ad e; omega
  have hbx4 : ∀ k, Of u2.sy.ba k → u2.sy.bs.map Value.bool ≠ [] → ¬ k = b4 := fun k hk _ h => by rw [e2] at hk; exact hby4 k hk h
  have hbx3 : ∀ k, Of u2.sy.ba k → u2.sy.bs.map Value.bool ≠ [] → ¬ k = b3 := fun k hk hx h => by rw [e2] at hk hx; exact hbx k hk hx h
  have hbs : CellsAt w5 u2.sy.ba (u2.sy.bs.map .bool) := by rw [e2]; exact hbs
  have h48 : ∀ r ∈ b.nw.ks, r.length = 48 := hkb2.nw.ks
  have hcn := hkb2.nw.n
  clear e2 hoN hkN hs4 hrK hK hKm hK48 hKc hnb hn3 hn4 hr3 hr4 hr5 hm5 hC5 hj hWS
  refine x_now0 gt_low (fun wS hCS gS => ?_)
  have ho3S := ho3.grow (hp_below hCS)
  have ho4S := ho4.grow (hp_below hCS)
  have hksS := hks.grow (hp_below hCS)
  have hbsS := hbs.grow (hp_below hCS)
  have hkbS := hkb.grow (hp_below hCS)
  have ho3 := ho3S
  have ho4 := ho4S
  have hks := hksS
  have hbs := hbsS
  have hkb := hkbS
  have hWS := hW.trans (hp_below hCS)
  have hGF := gt_low.plain gS
  have hbl : b4 < wS.heap.size := ho4.lt
  have hbl2 : b3 < wS.heap.size := ho3.lt
  clear hCS
  obtain ⟨j, hj⟩ : ∃ j, min b.nw.ks.length m = j := ⟨_, rfl⟩
  refine xs_drawK (E := EE []) (fun X => X = (fun w' => w'.cell? ⟨b4, 98, none⟩ = some (.slice b.nw.ka b.nw.ks.length b.nw.kc))) mkAp (rkB [83]) [0, 1, 2, 3, 4, 5, 6, 7, 8, 9, 11, 12, 13, 14, 15, 16, 17, 18, 10, 19, 20, 21, 22] mixed rfl (by kernel_rfl) (by kernel_rfl) (by kernel_rfl) ?_
  refine lxk_s rfl rfl ?_
  refine lx_fak 98 rfl Try.underlying42 rfl Try.sizeOf31 (by decide) rfl rfl rfl ?_
  refine lx_nil ?_
  refine lxk_s rfl rfl ?_
  refine lx_fak 98 rfl Try.underlying31 rfl Try.sizeOf27 (by decide) rfl rfl rfl ?_
  refine lx_nil ?_
  refine lxk_s rfl rfl ?_
  refine lx_load (v := .slice b.nw.ka b.nw.ks.length b.nw.kc) rfl Try.isAgg27 (fun w' h => ((ho4.grow (hp_below h)).cell 98).trans (Bo.at_keys hkb2)) rfl rfl ?_
  refine lx_nil ?_
  refine lxk_s rfl rfl ?_
  refine lx_fak 98 rfl Try.underlying42 rfl Try.sizeOf31 (by decide) rfl rfl rfl ?_
  refine lx_nil ?_
  refine lxk_s rfl rfl ?_
  refine lx_fak 98 rfl Try.underlying31 rfl Try.sizeOf27 (by decide) rfl rfl rfl ?_
  refine lx_nil ?_
  refine lxk_s rfl rfl ?_
  refine lx_load (v := .slice b.nw.ka b.nw.ks.length b.nw.kc) rfl Try.isAgg27 (fun w' h => ((ho4.grow (hp_below h)).cell 98).trans (Bo.at_keys hkb2)) rfl rfl ?_
  refine lx_nil ?_
  refine lxk_s rfl rfl ?_
  refine lx_len rfl (fun _ => len_slice Try.underlying27 _ _ _ _) rfl rfl ?_
  refine lx_nil ?_
  refine lxk_s rfl rfl ?_
  refine lx_move rfl rfl rfl ?_
  refine lx_nil ?_
  refine lxk_s rfl rfl ?_
  refine lx_min (z := (j : Int)) rfl rfl (by split <;> omega) rfl rfl ?_
  refine lx_nil ?_
  refine lxk_s rfl rfl ?_
  refine lx_slsl (l := 0) (h' := j) rfl Try.underlying27 Try.sizeOf29 rfl rfl ⟨Nat.zero_le _, by omega⟩ rfl rfl ?_
  rw [cutS, Nat.sub_zero, Nat.sub_zero]
  refine lx_nil ?_
  refine lxk_s rfl rfl ?_
  refine lx_move rfl rfl rfl ?_
  refine lx_nil ?_
  refine lxk_s rfl rfl ?_
  refine lx_fak 98 rfl Try.underlying42 rfl Try.sizeOf31 (by decide) rfl rfl rfl ?_
  refine lx_nil ?_
  refine lxk_s rfl rfl ?_
  refine lx_fak 98 rfl Try.underlying31 rfl Try.sizeOf27 (by decide) rfl rfl rfl ?_
  refine lx_nil ?_
  refine lxk_q (X := fun w' => w'.cell? ⟨b4, 98, none⟩ = some (.slice b.nw.ka b.nw.ks.length b.nw.kc)) rfl (fun w' h => ((ho4.grow (hp_below h)).cell 98).trans (Bo.at_keys hkb2)) (fun _ => rfl) ?_
  refine lx_load (v := .slice b.nw.ka b.nw.ks.length b.nw.kc) rfl Try.isAgg27 (fun w' h => h) rfl rfl ?_
  refine lx_nil ?_
  refine lxk_s rfl rfl ?_
  refine lx_len rfl (fun _ => len_slice Try.underlying27 _ _ _ _) rfl rfl ?_
  refine lx_nil ?_
  refine lxk_s rfl rfl ?_
  refine lx_move rfl rfl rfl ?_
  refine lx_nil ?_
  refine lxk_s rfl rfl ?_
  refine lx_min (z := (j : Int)) rfl rfl (by split <;> omega) rfl rfl ?_
  refine lx_nil ?_
  refine lxk_s rfl rfl ?_
  refine lx_bin (v := I (((m - j : Nat) : Int))) rfl rfl (fun _ => rfl) (fun _ => (bin_sub_i _ _ _ (by unfold inI; omega)).trans (by congr 2; omega)) rfl rfl ?_
  refine lx_nil ?_
  refine lxk_e rfl ?_
  refine lx_appX (xs := []) (ys := ((b.nw.ks.take j).flatten).map U8) (nx := 0) (ny := j) gt_low (fun w' h => hGF.g _ _ _ h) rfl rfl tiK rfl (fun w' h => .inl ⟨rfl, rfl, rfl, rfl⟩) (fun k _ => Nat.zero_le k) (fun w' h i hi hz hs hb => ASrc.of Try.underlying27 hi hz (by rw [hs]; exact src_cells Try.underlying27 (by decide) (by rw [fl48 (fun r hr => h48 r (List.mem_of_mem_take hr)), List.length_take]; omega) (rws_cells (((hkb.grow (hp_below h))).take j) (fun r hr => h48 r (List.mem_of_mem_take hr))) (u8s_one _))) (by omega) (by omega) rfl rfl (fun w3a w3 a1' c1' hC3 g3 hm3 hs3 ho3' => ?_)
  have hr3 := (hp_below hC3).trans (hm3.grow (fun k _ hk => by obtain ⟨_, e, _⟩ := hk; cases e))
  have hn3 : New wS a1' := fun ad e => (ho3' ad.block ⟨ad, e, rfl⟩).elim (fun ⟨_, e2, _⟩ => by cases e2) (fun h => Nat.le_trans (hp_below hC3).size h)
  have ho3 := ho3.grow hr3
  have ho4 := ho4.grow hr3
  have hks := hks.grow hr3
  have hbs := hbs.grow hr3
  have hkb := hkb.grow hr3
  have hGF := gt_low.plain g3
  rw [Nat.zero_add, List.nil_append] at hs3
  rw [Nat.zero_add]
  clear hm3 ho3' hC3
  refine lx_nil ?_
  refine ⟨fun _ X hX _ => by subst hX; exact fun w' h => ((ho4.grow (hp_below h)).cell 98).trans (Bo.at_keys hkb2), ?_⟩
  refine lxk_e rfl ?_
  refine lx_appX (xs := ((b.nw.ks.take j).flatten).map U8) (ys := (Builtin.zeroCells (Value.agg (Z48.map U8).toArray).cells (m - j)).toList) (nx := j) (ny := m - j) gt_low (fun w' h => hGF.g _ _ _ h) rfl rfl tiK rfl (fun w' h => hs3.grow (hp_below h)) (fun k _ => Nat.zero_le k) (fun w' h i hi hz hs hb => ASrc.zeros (n := m - j) (w := w') Try.underlying27 Try.underlying3 hi hz (by rw [hs]; rfl) (by rw [hs]; decide) (zk_one _) (by omega) (by rw [hb]; omega)) (by omega) (by omega) rfl rfl (fun w4a w4 a2 c2 hC4 g4 hm4 hs4 ho4' => ?_)
  have hr4 := hm4.grow0 (hr3.trans (hp_below hC4)) (fun k ⟨ad, e, hk⟩ => hk ▸ hn3 ad e)
  have hn4 : New wS a2 := fun ad e => (ho4' ad.block ⟨ad, e, rfl⟩).elim (fun ⟨ad2, e2, h2⟩ => h2 ▸ hn3 ad2 e2) (fun h => Nat.le_trans (Nat.le_trans hr3.size (hp_below hC4).size) h)
  have ho3 := ho3S.grow hr4
  have ho4 := ho4S.grow hr4
  have hks := hksS.grow hr4
  have hbs := hbsS.grow hr4
  have hkb := hkbS.grow hr4
  have hGF := gt_low.plain g4
  obtain ⟨K, hK⟩ : ∃ K, clipK b.nw.ks m = K := ⟨_, rfl⟩
  have hKm : K.length = m := by rw [← hK, clipK_len]
  have hK48 : ∀ r ∈ K, r.length = 48 := by rw [← hK]; exact clipK_all h48 m
  rw [zk_list, ← hj, ← clipK_fl, hK] at hs4
  have hKc : K.length ≤ c2 := by have := slw_le hs4; omega
  have hrK := rws_of hs4 hK48
  rw [show j + (m - j) = K.length by omega]
  clear hs3 hm4 ho4' hC4
  refine lx_nil ?_
  refine ⟨fun _ X hX _ => by subst hX; exact fun w' h => ((ho4.grow (hp_below h)).cell 98).trans (Bo.at_keys hkb2), ?_⟩
  refine lxk_s rfl rfl ?_
  refine lx_fak 98 rfl Try.underlying42 rfl Try.sizeOf31 (by decide) rfl rfl rfl ?_
  refine lx_nil ?_
  refine lxk_s rfl rfl ?_
  refine lx_fak 98 rfl Try.underlying31 rfl Try.sizeOf27 (by decide) rfl rfl rfl ?_
  refine lx_nil ?_
  refine lxk_e rfl ?_
  refine lx_st1W gt_low (fun w' h => hGF.g _ _ _ h) (fun w' h => ho4.grow (hp_below h)) (Nat.zero_le _) rfl rfl Try.sizeOf27 rfl (by rw [Bo.len hkb2]; decide) rfl (fun w5a w5 hC5 g5 hm5 hoN => ?_)
  have hr5 := hr4.trans (hp_below hC5)
  have hnb : ∀ ad, a2 = some ad → ¬ ad.block = b4 := fun ad e h => by have := hn4 ad e; omega
  have ho3 := hm5.own (ho3.grow (hp_below hC5)) (hne)
  have hW := (hm5.grow0 (hWS.trans hr5) (fun k hk => hk ▸ h4w))
  rw [Bo.keys_cs hkb2] at hoN
  have hkN : RwsAt 48 w5 a2 K := (hrK.grow (hp_below hC5)).mm hm5 (fun _ k ⟨ad, e, hk⟩ h => hnb ad e (hk ▸ h))
  have hbs := cells_mm (hbs.grow (hp_below hC5)) hm5 (fun hx k hk h => hbx4 k hk hx h)
  have hks := (hks.grow (hp_below hC5)).mm hm5 (fun hx k hk h => hkx4 k hk hx h)
  have hGF := gt_low.plain g5
  refine lx_nil ?_
  refine ⟨fun h => absurd h (by decide), ?_⟩
  refine lxk_nil ?_
  obtain ⟨b1, e1⟩ : ∃ x, x = b.keys K a2 c2 := ⟨_, rfl⟩
  rw [← e1] at hoN
  have ho4 := hoN
  have kb1 : b1.Ok := by rw [e1]; exact Bo.keys_ok hkb2 hK48 hKc
  have lb1 : b1.nw.ks.length = m := by rw [e1]; exact hKm
  have hkb : RwsAt 48 w5 b1.nw.ka b1.nw.ks := by rw [e1]; exact hkN
  clear e1 hoN hkN hs4 hrK hK hKm hK48 hKc hnb hn3 hn4 hr3 hr4 hr5 hm5 hC5 hj hWS h48 hcn
  refine xs_plain (E := EE [12]) ?_
  refine lx_loadr (cs := u2.cs) rfl Try.isAgg40 Try.sizeOf40 (Up.len (k2)) (fun w' h => (ho3.grow (hp_below h)).range) rfl rfl ?_
  refine lx_callW gt_low (M := fun _ => False) (fun k h => h.elim) rfl rfl ent12 rfl rfl hGF (Q := fun w1 w2 v => Fr8 w1 w2 v u2.by) (fun w1 h1 g1 => (hT.encU u2 k2 (by omega) (by omega) w1 g1 (hks.grow h1) (hbs.grow h1)).mono fun e w2 ⟨v, q1, q2, q3⟩ => ⟨v, q1, grow_mm q2, q3⟩) (fun w6a w6 v hg6 hm6 g6 hq => ?_)
  have hr6 := hg6.trans (hm6.grow (fun _ _ h => h))
  have ho3a : b3 < w6a.heap.size := (ho3.grow hg6).lt
  have ho4a : b4 < w6a.heap.size := (ho4.grow hg6).lt
  have h7w0 : w.heap.size ≤ w6a.heap.size := (hW.trans hg6).size
  have hk7 : u2.nx.ks ≠ [] → ∀ k, Of u2.nx.ka k → k < w6a.heap.size := fun hx => (hks.grow hg6).lt (by decide) k2.nx.ks hx
  have hb7 : u2.sy.bs.map Value.bool ≠ [] → ∀ k, Of u2.sy.ba k → k < w6a.heap.size := fun hx => cells_lt (hbs.grow hg6) hx
  have hkb7 : b1.nw.ks ≠ [] → ∀ k, Of b1.nw.ka k → k < w6a.heap.size := fun hx => (hkb.grow hg6).lt (by decide) kb1.nw.ks hx
  obtain ⟨a7, k7, rfl, hs7, hn7⟩ := hq
  have hle7 : (u2.by).length ≤ k7 := by have := hs7.le; rwa [List.length_map] at this
  have ho3 := ho3.grow hr6
  have ho4 := ho4.grow hr6
  have hks := hks.grow hr6
  have hbs := hbs.grow hr6
  have hkb := hkb.grow hr6
  have hW := hW.trans hr6
  have hGF := gt_low.plain g6
  clear hm6 hg6
  obtain ⟨b7, rfl, h7l, _⟩ := hs7.at (by intro h; exact Hd.by_ne _ _ (List.map_eq_nil_iff.1 h))
  have h7n : w6a.heap.size ≤ b7 := hn7 _ rfl
  have h7w : w.heap.size ≤ b7 := Nat.le_trans h7w0 h7n
  have hs7b : b7 < w6.heap.size := h7l
  have hbl := by_len k2 l2
  have hpos : 1 ≤ u2.by.length := by rw [hbl]; unfold sz2; omega
  have h37 : ¬ b3 = b7 := fun h => by have := ho3a; omega
  have h47 : ¬ b4 = b7 := fun h => by have := ho4a; omega
  refine lx_assign rfl rfl rfl ?_
  refine lx_nil ?_
  refine xs_plain (E := EE [23]) ?_
  refine lx_move rfl rfl rfl ?_
  refine lx_move rfl rfl rfl ?_
  refine lx_callW gt_low (M := fun _ => False) (fun k h => h.elim) rfl rfl ent23 rfl rfl hGF (Q := fun w1 w2 v => w6.heap.size ≤ w1.heap.size ∧ ∃ ka kc ba bc, v = .tuple #[.agg (u2.re ka kc ba bc).cs.toArray, I 0] ∧ RwsAt 48 w2 ka u2.nx.ks ∧ CellsAt w2 ba (u2.sy.bs.map .bool) ∧ u2.nx.ks.length ≤ kc ∧ (∀ k, Of ka k → w1.heap.size ≤ k) ∧ ∀ ad, ba = some ad → w1.heap.size ≤ ad.block) (fun w1 h1 g1 => (dU_back hT hm k2 l3 l2 _ k7 hle7 w1 g1 (hs7.grow h1).bytes (fun ad e => (hs7.grow h1).lt ad e)).mono fun e w2 ⟨v, q1, q2, q3⟩ => ⟨v, q1, q2, h1.size, q3⟩) (fun w9a w9 v hg9 hm9 g9 hq => ?_)
  have hr9 := hg9.trans (hm9.grow (fun _ _ h => h))
  have ho3 := ho3.grow hr9
  have ho4 := ho4.grow hr9
  have hks := hks.grow hr9
  have hbs := hbs.grow hr9
  have hkb := hkb.grow hr9
  have hs7 := hs7.grow hr9
  have hW := hW.trans hr9
  obtain ⟨h67, ka8, kc8, ba8, bc8, rfl, hr8, hb8, hc8, hf8, hf9⟩ := hq
  have hf8 : ∀ k, Of ka8 k → ¬ k = b7 := fun k hk h => by have := hf8 k hk; omega
  have hf9 : ∀ ad, ba8 = some ad → ¬ ad.block = b7 := fun ad e h => by have := hf9 ad e; omega
  have hGF := gt_low.plain g9
  clear hm9 hg9
  refine lx_move rfl rfl rfl ?_
  refine lx_ext rfl rfl rfl rfl ?_
  refine lx_ext rfl rfl rfl rfl ?_
  refine lx_allocr 8 hGF zvU rfl rfl ?_
  intro b8
  refine lx_storea 8 hGF rfl rfl rfl Try.sizeOf40 (Up.len (Up.re_ok k2 hc8)) U0_len (Up.one _) rfl ?_
  refine lx_assign rfl rfl rfl ?_
  refine lx_nil ?_
  have hs7o : b7 < w9.heap.size := hs7.lt _ rfl
  refine x_now0 gt_low (fun wS hCS gS => ?_)
  have ho3 := ho3.grow (hp_below hCS)
  have ho4 := ho4.grow (hp_below hCS)
  have hks := hks.grow (hp_below hCS)
  have hbs := hbs.grow (hp_below hCS)
  have hkb := hkb.grow (hp_below hCS)
  have hs7 := hs7.grow (hp_below hCS)
  have hr8 := hr8.grow (hp_below hCS)
  have hb8 := hb8.grow (hp_below hCS)
  have hW := hW.trans (hp_below hCS)
  have ho8 := (hCS.own 8 _ _ _ rfl).1
  have h87 : ¬ b8 = b7 := fun h => by have h9 : w9.heap.size ≤ b8 := (hCS.own 8 _ _ _ rfl).2.elim id False.elim; omega
  have hGF := gt_low.plain gS
  clear hCS
  refine xs_plain (E := EE [23]) ?_
  refine lx_move rfl rfl rfl ?_
  refine lx_move rfl rfl rfl ?_
  refine lx_len rfl (fun _ => len_slice Try.underlying46 _ _ _ _) rfl rfl ?_
  refine lx_bin (v := I (((u2.by.length - 1 : Nat) : Int))) rfl rfl (fun _ => rfl) (fun _ => (bin_sub_i _ _ _ (by unfold inI; rw [hbl]; unfold sz2 szB; omega)).trans (by congr 2; omega)) rfl rfl ?_
  refine lx_slsl (l := 0) (h' := u2.by.length - 1) rfl Try.underlying46 Try.sizeOf5 rfl rfl ⟨Nat.zero_le _, by omega⟩ rfl rfl ?_
  rw [cutS, Nat.sub_zero, Nat.sub_zero]
  obtain ⟨zs, hzs⟩ : ∃ zs, u2.by.take (u2.by.length - 1) = zs := ⟨_, rfl⟩
  have hzl : zs.length = u2.by.length - 1 := by rw [← hzs, List.length_take]; omega
  rw [← hzl]
  refine lx_move rfl rfl rfl ?_
  refine lx_callW gt_low (M := fun _ => False) (fun k h => h.elim) rfl rfl ent23 rfl rfl hGF (Q := fun w1 w2 v => v = .tuple #[.agg U0.toArray, I 170]) (fun w1 h1 g1 => dU_not hT hm zs (by rw [hzl, hbl]; unfold sz2 at *; omega) (by rw [hzl, hbl]; unfold sz2 szB; omega) _ k7 (by omega) w1 g1 (by rw [← hzs]; exact (hs7.grow h1).bytes.take _) (fun ad e => (hs7.grow h1).lt ad e)) (fun w9a w9 v hg9 hm9 g9 hq => ?_)
  have hr9 := hg9.trans (hm9.grow (fun _ _ h => h))
  have ho3 := ho3.grow hr9
  have ho4 := ho4.grow hr9
  have hks := hks.grow hr9
  have hbs := hbs.grow hr9
  have hkb := hkb.grow hr9
  have hs7 := hs7.grow hr9
  have hr8 := hr8.grow hr9
  have hb8 := hb8.grow hr9
  have ho8 := ho8.grow hr9
  have hW := hW.trans hr9
  obtain rfl := hq
  have hGF := gt_low.plain g9
  clear hm9 hg9
  refine lx_move rfl rfl rfl ?_
  refine lx_ext rfl rfl rfl rfl ?_
  refine lx_ext rfl rfl rfl rfl ?_
  refine lx_allocr 10 hGF zvU rfl rfl ?_
  intro b10
  refine lx_storea 10 hGF rfl rfl rfl Try.sizeOf40 (U0_len) U0_len (U0_one3) rfl ?_
  refine lx_assign rfl rfl rfl ?_
  refine lx_nil ?_
  refine x_now0 gt_low (fun wS hCS gS => ?_)
  have ho3 := ho3.grow (hp_below hCS)
  have ho4 := ho4.grow (hp_below hCS)
  have hks := hks.grow (hp_below hCS)
  have hbs := hbs.grow (hp_below hCS)
  have hkb := hkb.grow (hp_below hCS)
  have hs7 := hs7.grow (hp_below hCS)
  have hr8 := hr8.grow (hp_below hCS)
  have hb8 := hb8.grow (hp_below hCS)
  have ho8 := ho8.grow (hp_below hCS)
  have hW := hW.trans (hp_below hCS)
  have hGF := gt_low.plain gS
  clear hCS
  refine xs_plain (E := EE [23]) ?_
  refine lx_move rfl rfl rfl ?_
  refine lx_bslV 111 [U8 0#8] hGF rfl rfl rfl (by decide) (by decide) Try.underlying46 Try.sizeOf5 Try.zeroValue5 rfl rfl rfl ?_
  intro b111
  refine lx_app8 (xs := u2.by) (ys := [0#8]) gt_low (fun w' h => hGF.g _ _ _ h) rfl rfl Try.underlying46 Try.underlying46 ti5 (fun w' h => hs7.grow (hp_below h)) (fun k _ => Nat.zero_le k) (fun w' h => bytes_cells (CellsAt.range (hp_row (n := 111) rfl w' h))) (fun w' h _ ad e ⟨ad2, e2, hb2⟩ => by cases e; cases e2; have h9 : wS.heap.size ≤ b111 := (h.own 111 _ _ _ rfl).2.elim id False.elim; have h10 : b7 < wS.heap.size := hs7.lt _ rfl; have h11 : b111 = b7 := (by first | exact hb2 | exact hb2.symm); omega) (by rw [hbl]; unfold sz2 szB; simp; omega) rfl rfl (fun w5a w5 a10 c10 hC5 g5 hm5 hs10 ho10 => ?_)
  have hM : ∀ k, Of (some (⟨b7, 0, none⟩ : Addr)) k → k = b7 := fun k ⟨ad, e, hk⟩ => by cases e; exact hk
  have hg5 := hp_below hC5
  have ho3 := hm5.own (ho3.grow hg5) (fun h => h37 (hM _ h))
  have ho4 := hm5.own (ho4.grow hg5) (fun h => h47 (hM _ h))
  have ho8 := hm5.own (ho8.grow hg5) (fun h => h87 (hM _ h))
  have hks := (hks.grow hg5).mm hm5 (fun hx k hk h => by have h9 := hk7 hx k hk; have h10 := hM _ h; omega)
  have hbs := cells_mm (hbs.grow hg5) hm5 (fun hx k hk h => by have h9 := hb7 hx k hk; have h10 := hM _ h; omega)
  have hkb := (hkb.grow hg5).mm hm5 (fun hx k hk h => by have h9 := hkb7 hx k hk; have h10 := hM _ h; omega)
  have hr8 := (hr8.grow hg5).mm hm5 (fun hx k hk h => hf8 k hk (hM _ h))
  have hb8 := cells_mm (hb8.grow hg5) hm5 (fun hx k ⟨ad, e, hk⟩ h => hf9 ad e (hk ▸ hM _ h))
  have hW := hm5.grow0 (hW.trans hg5) (fun k hk => by rw [hM k hk]; exact h7w)
  have hGF := gt_low.plain g5
  have hyl : (u2.by ++ [0#8]).length = sz2 m + 1 := by rw [List.length_append, hbl]; rfl
  refine lx_move rfl rfl rfl ?_
  refine lx_callW gt_low (M := fun _ => False) (fun k h => h.elim) rfl rfl ent23 rfl rfl hGF (Q := fun w1 w2 v => v = .tuple #[.agg U0.toArray, I 170]) (fun w1 h1 g1 => dU_not hT hm (u2.by ++ [0#8]) (by rw [hyl]; omega) (by rw [hyl]; unfold sz2 szB; omega) a10 c10 (by have := (hs10.grow h1).le; rwa [List.length_map] at this) w1 g1 (hs10.grow h1).bytes (fun ad e => (hs10.grow h1).lt ad e)) (fun w9a w9 v hg9 hm9 g9 hq => ?_)
  have hr9 := hg9.trans (hm9.grow (fun _ _ h => h))
  have ho3 := ho3.grow hr9
  have ho4 := ho4.grow hr9
  have hks := hks.grow hr9
  have hbs := hbs.grow hr9
  have hkb := hkb.grow hr9
  have hr8 := hr8.grow hr9
  have hb8 := hb8.grow hr9
  have ho8 := ho8.grow hr9
  have hs10 := hs10.grow hr9
  have hW := hW.trans hr9
  obtain rfl := hq
  have hGF := gt_low.plain g9
  clear hm9 hg9
  refine lx_move rfl rfl rfl ?_
  refine lx_ext rfl rfl rfl rfl ?_
  refine lx_ext rfl rfl rfl rfl ?_
  refine lx_allocr 12 hGF zvU rfl rfl ?_
  intro b12
  refine lx_storea 12 hGF rfl rfl rfl Try.sizeOf40 (U0_len) U0_len (U0_one3) rfl ?_
  refine lx_assign rfl rfl rfl ?_
  refine lx_nil ?_
  refine x_now0 gt_low (fun wS hCS gS => ?_)
  have ho3 := ho3.grow (hp_below hCS)
  have ho4 := ho4.grow (hp_below hCS)
  have hks := hks.grow (hp_below hCS)
  have hbs := hbs.grow (hp_below hCS)
  have hkb := hkb.grow (hp_below hCS)
  have hr8 := hr8.grow (hp_below hCS)
  have hb8 := hb8.grow (hp_below hCS)
  have ho8 := ho8.grow (hp_below hCS)
  have hs10 := hs10.grow (hp_below hCS)
  have hW := hW.trans (hp_below hCS)
  have hGF := gt_low.plain gS
  clear hCS
  refine xs_plain (E := EE [18, 21]) ?_
  refine lx_loadr (cs := b1.cs) rfl Try.isAgg42 Try.sizeOf42 (Bo.len (kb1)) (fun w' h => (ho4.grow (hp_below h)).range) rfl rfl ?_
  refine lx_callW gt_low (M := fun _ => False) (fun k h => h.elim) rfl rfl ent18 rfl rfl hGF (Q := fun w1 w2 v => Fr8 w1 w2 v b1.by) (fun w1 h1 g1 => (hT.encB b1 kb1 (by omega) w1 g1 (hkb.grow h1)).mono fun e w2 ⟨v, q1, q2, q3⟩ => ⟨v, q1, grow_mm q2, q3⟩) (fun w6a w6 v hg6 hm6 g6 hq => ?_)
  have hr6 := hg6.trans (hm6.grow (fun _ _ h => h))
  obtain ⟨a11, k11, rfl, hs11, hn11⟩ := hq
  have hle11 : (b1.by).length ≤ k11 := by have := hs11.le; rwa [List.length_map] at this
  have ho3 := ho3.grow hr6
  have ho4 := ho4.grow hr6
  have hks := hks.grow hr6
  have hbs := hbs.grow hr6
  have hkb := hkb.grow hr6
  have hr8 := hr8.grow hr6
  have hb8 := hb8.grow hr6
  have ho8 := ho8.grow hr6
  have hW := hW.trans hr6
  have hGF := gt_low.plain g6
  clear hm6 hg6
  refine lx_move rfl rfl rfl ?_
  refine lx_callW gt_low (M := fun _ => False) (fun k h => h.elim) rfl rfl ent21 rfl rfl hGF (Q := fun w1 w2 v => BR b1 0 w2 v) (fun w1 h1 g1 => dB_back hT hm kb1 lb1 a11 k11 hle11 w1 g1 (hs11.grow h1).bytes (fun ad e => (hs11.grow h1).lt ad e)) (fun w9a w9 v hg9 hm9 g9 hq => ?_)
  have hr9 := hg9.trans (hm9.grow (fun _ _ h => h))
  have ho3 := ho3.grow hr9
  have ho4 := ho4.grow hr9
  have hks := hks.grow hr9
  have hbs := hbs.grow hr9
  have hkb := hkb.grow hr9
  have hr8 := hr8.grow hr9
  have hb8 := hb8.grow hr9
  have ho8 := ho8.grow hr9
  have hW := hW.trans hr9
  obtain ⟨ka14, kc14, rfl, hr14, hc14⟩ := hq
  have hGF := gt_low.plain g9
  clear hm9 hg9
  refine lx_move rfl rfl rfl ?_
  refine lx_ext rfl rfl rfl rfl ?_
  refine lx_ext rfl rfl rfl rfl ?_
  refine lx_allocr 14 hGF zvBo rfl rfl ?_
  intro b14
  refine lx_storea 14 hGF rfl rfl rfl Try.sizeOf42 (Bo.len (Bo.re_ok kb1 hc14)) Bo0_len (Bo.one _) rfl ?_
  refine lx_assign rfl rfl rfl ?_
  refine lx_nil ?_
  refine x_seq ?_
  refine x_now0 gt_low (fun wS hCS gS => ?_)
  have ho3 := ho3.grow (hp_below hCS)
  have ho4 := ho4.grow (hp_below hCS)
  have hks := hks.grow (hp_below hCS)
  have hbs := hbs.grow (hp_below hCS)
  have hkb := hkb.grow (hp_below hCS)
  have hr8 := hr8.grow (hp_below hCS)
  have hb8 := hb8.grow (hp_below hCS)
  have ho8 := ho8.grow (hp_below hCS)
  have hr14 := hr14.grow (hp_below hCS)
  have hW := hW.trans (hp_below hCS)
  have ho14 := (hCS.own 14 _ _ _ rfl).1
  have hGF := gt_low.plain gS
  clear hCS
  refine xs_plain (E := EE []) ?_
  refine lx_move rfl rfl rfl ?_
  refine lx_move rfl rfl rfl ?_
  refine lx_bin (v := I (0)) rfl rfl (fun _ => rfl) (fun _ => bin_add_i _ _ _ (by unfold inI; decide)) rfl rfl ?_
  refine lx_binB false rfl rfl (fun _ => rfl) (fun _ => bin_neq_i _ _ _) (by decide) rfl rfl ?_
  refine lx_move rfl rfl rfl ?_
  refine lx_loadr (cs := (u2.re ka8 kc8 ba8 bc8).cs) rfl Try.isAgg40 Try.sizeOf40 (Up.len (Up.re_ok k2 hc8)) (fun w' h => (ho8.grow (hp_below h)).range) rfl rfl ?_
  refine lx_loadr (cs := u2.cs) rfl Try.isAgg40 Try.sizeOf40 (Up.len (k2)) (fun w' h => (ho3.grow (hp_below h)).range) rfl rfl ?_
  refine lx_callC rfl rfl ent28 (fun w1 hC hG => hup_calls (u2.re ka8 kc8 ba8 bc8) (Up.re_ok k2 hc8) (show u2.nx.ks.length ≤ 100000 by omega) (show u2.sy.bs.length ≤ 100000 by omega) u2.nx.ka u2.nx.kc u2.sy.ba u2.sy.bc k2.nx.n w1 hG (hr8.grow (hp_below hC)) (hks.grow (hp_below hC)) (hb8.grow (hp_below hC)) (hbs.grow (hp_below hC))) rfl rfl ?_
  refine lx_un rfl (fun _ => un_not _) rfl rfl ?_
  refine lx_pick rfl rfl rfl rfl rfl ?_
  refine lx_move rfl rfl rfl ?_
  refine lx_move rfl rfl rfl ?_
  refine lx_binB false rfl rfl (fun _ => rfl) (fun _ => bin_neq_i _ _ _) (by decide) rfl rfl ?_
  refine lx_pick rfl rfl rfl rfl rfl ?_
  refine lx_move rfl rfl rfl ?_
  refine lx_move rfl rfl rfl ?_
  refine lx_binB false rfl rfl (fun _ => rfl) (fun _ => bin_neq_i _ _ _) (by decide) rfl rfl ?_
  refine lx_pick rfl rfl rfl rfl rfl ?_
  refine lx_move rfl rfl rfl ?_
  refine lx_loadr (cs := (b1.re ka14 kc14).cs) rfl Try.isAgg42 Try.sizeOf42 (Bo.len (Bo.re_ok kb1 hc14)) (fun w' h => (ho14.grow (hp_below h)).range) rfl rfl ?_
  refine lx_loadr (cs := b1.cs) rfl Try.isAgg42 Try.sizeOf42 (Bo.len (kb1)) (fun w' h => (ho4.grow (hp_below h)).range) rfl rfl ?_
  refine lx_callC rfl rfl ent27 (fun w1 hC hG => hbo_calls (b1.re ka14 kc14) (Bo.re_ok kb1 hc14) (show b1.nw.ks.length ≤ 100000 by omega) b1.nw.ka b1.nw.kc kb1.nw.n w1 hG (hr14.grow (hp_below hC)) (hkb.grow (hp_below hC))) rfl rfl ?_
  refine lx_un rfl (fun _ => un_not _) rfl rfl ?_
  refine lx_pick rfl rfl rfl rfl rfl ?_
  refine lx_nil ?_
  refine x_false rfl ?_
  refine x_skip ?_
  refine x_now0 gt_low (fun wS hCS gS => ?_)
  have ho3 := ho3.grow (hp_below hCS)
  have ho4 := ho4.grow (hp_below hCS)
  have hks := hks.grow (hp_below hCS)
  have hbs := hbs.grow (hp_below hCS)
  have hkb := hkb.grow (hp_below hCS)
  have hr8 := hr8.grow (hp_below hCS)
  have hb8 := hb8.grow (hp_below hCS)
  have ho8 := ho8.grow (hp_below hCS)
  have hr14 := hr14.grow (hp_below hCS)
  have ho14 := ho14.grow (hp_below hCS)
  have hW := hW.trans (hp_below hCS)
  have hGF := gt_low.plain gS
  clear hCS
  refine xs_plain (E := EE [14, 24]) ?_
  refine lx_loadr (cs := u2.cs) rfl Try.isAgg40 Try.sizeOf40 (Up.len (k2)) (fun w' h => (ho3.grow (hp_below h)).range) rfl rfl ?_
  refine lx_callW gt_low (M := fun _ => False) (fun k h => h.elim) rfl rfl ent14 rfl rfl hGF (Q := fun w1 w2 v => Fr8 w1 w2 v u2.fin) (fun w1 h1 g1 => (hT.encF u2 k2 (by omega) (by omega) w1 g1 (hks.grow h1) (hbs.grow h1)).mono fun e w2 ⟨v, q1, q2, q3⟩ => ⟨v, q1, grow_mm q2, q3⟩) (fun w6a w6 v hg6 hm6 g6 hq => ?_)
  have hr6 := hg6.trans (hm6.grow (fun _ _ h => h))
  obtain ⟨a15, k15, rfl, hs15, hn15⟩ := hq
  have hle15 : (u2.fin).length ≤ k15 := by have := hs15.le; rwa [List.length_map] at this
  have ho3 := ho3.grow hr6
  have hks := hks.grow hr6
  have hbs := hbs.grow hr6
  have hW := hW.trans hr6
  have hGF := gt_low.plain g6
  clear hm6 hg6
  refine lx_move rfl rfl rfl ?_
  refine lx_callW gt_low (M := fun _ => False) (fun k h => h.elim) rfl rfl ent24 rfl rfl hGF (Q := fun w1 w2 v => ∃ ka kc ba bc, v = .tuple #[.agg (u2.noNx.re ka kc ba bc).cs.toArray, I 0] ∧ RwsAt 48 w2 ka u2.noNx.nx.ks ∧ CellsAt w2 ba (u2.noNx.sy.bs.map .bool) ∧ u2.noNx.nx.ks.length ≤ kc ∧ ∀ k, Of ba k → ¬ k = b3) (fun w1 h1 g1 => (dF_back hT hm k2 l2 a15 k15 hle15 w1 g1 (hs15.grow h1).bytes (fun ad e => (hs15.grow h1).lt ad e)).mono fun e w2 ⟨v, q1, q2, ka, kc, ba, bc, q3, q4, q5, q6, q7⟩ => ⟨v, q1, q2, ka, kc, ba, bc, q3, q4, q5, q6, fun k ⟨ad, e, hk⟩ h => by have h9 := q7 ad e; have h10 := (ho3.grow h1).lt; omega⟩) (fun w9a w9 v hg9 hm9 g9 hq => ?_)
  have hr9 := hg9.trans (hm9.grow (fun _ _ h => h))
  have ho3 := ho3.grow hr9
  have hks := hks.grow hr9
  have hbs := hbs.grow hr9
  have hW := hW.trans hr9
  obtain ⟨ka16, kc16, ba16, bc16, rfl, hr16, hb16, hc16, hb16n⟩ := hq
  have hGF := gt_low.plain g9
  clear hm9 hg9
  refine lx_move rfl rfl rfl ?_
  refine lx_ext rfl rfl rfl rfl ?_
  refine lx_ext rfl rfl rfl rfl ?_
  refine lx_allocr 16 hGF zvU rfl rfl ?_
  intro b16
  refine lx_storea 16 hGF rfl rfl rfl Try.sizeOf40 (Up.len (Up.re_ok (Up.noNx_ok k2) hc16)) U0_len (Up.one _) rfl ?_
  refine lx_assign rfl rfl rfl ?_
  refine lx_nil ?_
  refine x_now0 gt_low (fun wS hCS gS => ?_)
  have ho16 := (hCS.own 16 _ _ _ rfl).1
  have ho16n := (hCS.own 16 _ _ _ rfl).2.elim id False.elim
  have hn3x : ¬ b16 = b3 := fun h => by have := ho3.lt; have h0 : w9.heap.size ≤ b16 := ho16n; omega
  have ho3 := ho3.grow (hp_below hCS)
  have hks := hks.grow (hp_below hCS)
  have hbs := hbs.grow (hp_below hCS)
  have hr16 := hr16.grow (hp_below hCS)
  have hb16 := hb16.grow (hp_below hCS)
  have hW := hW.trans (hp_below hCS)
  have hGF := gt_low.plain gS
  clear hCS
  refine xs_plain (E := EE []) ?_
  refine lx_build (ps := []) (vs := []) (v := .agg Co0.toArray) rfl (fun w => bldCo0 w) rfl rfl ?_
  refine lx_buildz zvR5 Try.underlying32 Try.sizeOf24 rfl rfl ?_
  refine lx_fak 98 rfl Try.underlying40 rfl Try.sizeOf31 (by decide) rfl rfl rfl ?_
  refine lx_stW (vs := Co0) gt_low (fun w' h => hGF.g _ _ _ h) (fun w' h => ho3.grow (hp_below h)) (Nat.zero_le _) rfl rfl Try.sizeOf31 (by decide) (by decide +kernel) (by rw [Up.len (k2)]; decide) rfl (fun w5a w5 hC5 g5 hm5 ho3 => ?_)
  have hW := (hm5.grow0 (hW.trans (hp_below hC5)) (fun k hk => hk ▸ h3w))
  have ho16 := hm5.own (ho16.grow (hp_below hC5)) hn3x
  have hb16 := cells_mm (hb16.grow (hp_below hC5)) hm5 (fun hx k hk h => hb16n k hk h)
  have hbs := cells_mm (hbs.grow (hp_below hC5)) hm5 (fun hx k hk h => hbx3 k hk hx h)
  have hGF := gt_low.plain g5
  clear hC5 hm5
  refine lx_fak 147 rfl Try.underlying40 rfl Try.sizeOf32 (by decide) rfl rfl rfl ?_
  refine lx_stW (vs := (Zs 160).map U8) gt_low (fun w' h => hGF.g _ _ _ h) (fun w' h => ho3.grow (hp_below h)) (Nat.zero_le _) rfl rfl Try.sizeOf32 (by decide) (one_u8 _) (by rw [lay_length]; rw [Up.len (k2)]; decide) rfl (fun w5a w5 hC5 g5 hm5 ho3 => ?_)
  have hW := (hm5.grow0 (hW.trans (hp_below hC5)) (fun k hk => hk ▸ h3w))
  have ho16 := hm5.own (ho16.grow (hp_below hC5)) hn3x
  have hb16 := cells_mm (hb16.grow (hp_below hC5)) hm5 (fun hx k hk h => hb16n k hk h)
  have hbs := cells_mm (hbs.grow (hp_below hC5)) hm5 (fun hx k hk h => hbx3 k hk hx h)
  have hGF := gt_low.plain g5
  clear hC5 hm5
  refine lx_nil ?_
  rw [noNx_cs k2] at ho3
  refine x_seq ?_
  refine xs_plain (E := EE []) ?_
  refine lx_move rfl rfl rfl ?_
  refine lx_binB false rfl rfl (fun _ => rfl) (fun _ => bin_neq_i _ _ _) (by decide) rfl rfl ?_
  refine lx_move rfl rfl rfl ?_
  refine lx_loadr (cs := (u2.noNx.re ka16 kc16 ba16 bc16).cs) rfl Try.isAgg40 Try.sizeOf40 (Up.len (Up.re_ok (Up.noNx_ok k2) hc16)) (fun w' h => (ho16.grow (hp_below h)).range) rfl rfl ?_
  refine lx_loadr (cs := u2.noNx.cs) rfl Try.isAgg40 Try.sizeOf40 (Up.len (Up.noNx_ok k2)) (fun w' h => (ho3.grow (hp_below h)).range) rfl rfl ?_
  refine lx_callC rfl rfl ent28 (fun w1 hC hG => hup_calls (u2.noNx.re ka16 kc16 ba16 bc16) (Up.re_ok (Up.noNx_ok k2) hc16) (Nat.zero_le _) (show u2.sy.bs.length ≤ 100000 by omega) none 0 u2.sy.ba u2.sy.bc (Nat.le_refl _) w1 hG (rws_nil _ _) (rws_nil _ _) (hb16.grow (hp_below hC)) (hbs.grow (hp_below hC))) rfl rfl ?_
  refine lx_un rfl (fun _ => un_not _) rfl rfl ?_
  refine lx_pick rfl rfl rfl rfl rfl ?_
  refine lx_nil ?_
  refine x_false rfl ?_
  refine x_skip ?_
  refine x_now0 gt_low (fun wS hCS gS => ?_)
  have ho3 := ho3.grow (hp_below hCS)
  have ho16 := ho16.grow (hp_below hCS)
  have hb16 := hb16.grow (hp_below hCS)
  have hbs := hbs.grow (hp_below hCS)
  have hW := hW.trans (hp_below hCS)
  have hGF := gt_low.plain gS
  clear hCS
  refine xs_plain (E := EE [16, 25]) ?_
  refine lx_loadr (cs := u2.noNx.cs) rfl Try.isAgg40 Try.sizeOf40 (Up.len (Up.noNx_ok k2)) (fun w' h => (ho3.grow (hp_below h)).range) rfl rfl ?_
  refine lx_callW gt_low (M := fun _ => False) (fun k h => h.elim) rfl rfl ent16 rfl rfl hGF (Q := fun w1 w2 v => Fr8 w1 w2 v u2.opt) (fun w1 h1 g1 => (hT.encO u2.noNx (Up.noNx_ok k2) (Nat.zero_le _) (show u2.sy.bs.length ≤ 1000 by omega) w1 g1 (rws_nil _ _) (hbs.grow h1)).mono fun e w2 ⟨v, q1, q2, q3⟩ => ⟨v, q1, grow_mm q2, q3⟩) (fun w6a w6 v hg6 hm6 g6 hq => ?_)
  have hr6 := hg6.trans (hm6.grow (fun _ _ h => h))
  obtain ⟨a17, k17, rfl, hs17, hn17⟩ := hq
  have hle17 : (u2.opt).length ≤ k17 := by have := hs17.le; rwa [List.length_map] at this
  have ho3 := ho3.grow hr6
  have hbs := hbs.grow hr6
  have hW := hW.trans hr6
  have hGF := gt_low.plain g6
  clear hm6 hg6
  refine lx_move rfl rfl rfl ?_
  refine lx_callW gt_low (M := fun _ => False) (fun k h => h.elim) rfl rfl ent25 rfl rfl hGF (Q := fun w1 w2 v => ∃ ka kc ba bc, v = .tuple #[.agg (u2.noNx.noFi.re ka kc ba bc).cs.toArray, I 0] ∧ RwsAt 48 w2 ka u2.noNx.noFi.nx.ks ∧ CellsAt w2 ba (u2.noNx.noFi.sy.bs.map .bool) ∧ u2.noNx.noFi.nx.ks.length ≤ kc ∧ ∀ k, Of ba k → ¬ k = b3) (fun w1 h1 g1 => (dO_back hT hm k2 l2 a17 k17 hle17 w1 g1 (hs17.grow h1).bytes (fun ad e => (hs17.grow h1).lt ad e)).mono fun e w2 ⟨v, q1, q2, ka, kc, ba, bc, q3, q4, q5, q6, q7⟩ => ⟨v, q1, q2, ka, kc, ba, bc, q3, q4, q5, q6, fun k ⟨ad, e, hk⟩ h => by have h9 := q7 ad e; have h10 := (ho3.grow h1).lt; omega⟩) (fun w9a w9 v hg9 hm9 g9 hq => ?_)
  have hr9 := hg9.trans (hm9.grow (fun _ _ h => h))
  have ho3 := ho3.grow hr9
  have hbs := hbs.grow hr9
  have hW := hW.trans hr9
  obtain ⟨ka18, kc18, ba18, bc18, rfl, hr18, hb18, hc18, hb18n⟩ := hq
  have hGF := gt_low.plain g9
  clear hm9 hg9
  refine lx_move rfl rfl rfl ?_
  refine lx_ext rfl rfl rfl rfl ?_
  refine lx_ext rfl rfl rfl rfl ?_
  refine lx_allocr 18 hGF zvU rfl rfl ?_
  intro b18
  refine lx_storea 18 hGF rfl rfl rfl Try.sizeOf40 (Up.len (Up.re_ok (Up.noFi_ok (Up.noNx_ok k2)) hc18)) U0_len (Up.one _) rfl ?_
  refine lx_assign rfl rfl rfl ?_
  refine lx_nil ?_
  refine x_now0 gt_low (fun wS hCS gS => ?_)
  have ho18 := (hCS.own 18 _ _ _ rfl).1
  have ho18n := (hCS.own 18 _ _ _ rfl).2.elim id False.elim
  have hn3x : ¬ b18 = b3 := fun h => by have := ho3.lt; have h0 : w9.heap.size ≤ b18 := ho18n; omega
  have ho3 := ho3.grow (hp_below hCS)
  have hbs := hbs.grow (hp_below hCS)
  have hb18 := hb18.grow (hp_below hCS)
  have hW := hW.trans (hp_below hCS)
  have hGF := gt_low.plain gS
  clear hCS
  refine xs_plain (E := EE []) ?_
  refine lx_build (ps := []) (vs := []) (v := .agg Hd0.cs.toArray) rfl (fun w => bldHd0 w) rfl rfl ?_
  refine lx_buildz zvR6 Try.underlying33 Try.sizeOf24 rfl rfl ?_
  refine lx_fak 307 rfl Try.underlying40 rfl Try.sizeOf26 (by decide) rfl rfl rfl ?_
  refine lx_stW (vs := Hd0.cs) gt_low (fun w' h => hGF.g _ _ _ h) (fun w' h => ho3.grow (hp_below h)) (Nat.zero_le _) rfl rfl Try.sizeOf26 (by decide) (Hd.one _) (by rw [Up.len (Up.noNx_ok k2)]; decide) rfl (fun w5a w5 hC5 g5 hm5 ho3 => ?_)
  have hW := (hm5.grow0 (hW.trans (hp_below hC5)) (fun k hk => hk ▸ h3w))
  have ho18 := hm5.own (ho18.grow (hp_below hC5)) hn3x
  have hb18 := cells_mm (hb18.grow (hp_below hC5)) hm5 (fun hx k hk h => hb18n k hk h)
  have hbs := cells_mm (hbs.grow (hp_below hC5)) hm5 (fun hx k hk h => hbx3 k hk hx h)
  have hGF := gt_low.plain g5
  clear hC5 hm5
  refine lx_fak 405 rfl Try.underlying40 rfl Try.sizeOf33 (by decide) rfl rfl rfl ?_
  refine lx_stW (vs := (Zs 192).map U8) gt_low (fun w' h => hGF.g _ _ _ h) (fun w' h => ho3.grow (hp_below h)) (Nat.zero_le _) rfl rfl Try.sizeOf33 (by decide) (one_u8 _) (by rw [lay_length]; rw [Up.len (Up.noNx_ok k2)]; decide) rfl (fun w5a w5 hC5 g5 hm5 ho3 => ?_)
  have hW := (hm5.grow0 (hW.trans (hp_below hC5)) (fun k hk => hk ▸ h3w))
  have ho18 := hm5.own (ho18.grow (hp_below hC5)) hn3x
  have hb18 := cells_mm (hb18.grow (hp_below hC5)) hm5 (fun hx k hk h => hb18n k hk h)
  have hbs := cells_mm (hbs.grow (hp_below hC5)) hm5 (fun hx k hk h => hbx3 k hk hx h)
  have hGF := gt_low.plain g5
  clear hC5 hm5
  refine lx_nil ?_
  rw [noFi_cs (Up.noNx_ok k2)] at ho3
  refine xs_plain (E := EE []) ?_
  refine lx_move rfl rfl rfl ?_
  refine lx_binB true rfl rfl (fun _ => rfl) (fun _ => bin_eql_i _ _ _) (by decide) rfl rfl ?_
  refine lx_move rfl rfl rfl ?_
  refine lx_loadr (cs := (u2.noNx.noFi.re ka18 kc18 ba18 bc18).cs) rfl Try.isAgg40 Try.sizeOf40 (Up.len (Up.re_ok (Up.noFi_ok (Up.noNx_ok k2)) hc18)) (fun w' h => (ho18.grow (hp_below h)).range) rfl rfl ?_
  refine lx_loadr (cs := u2.noNx.noFi.cs) rfl Try.isAgg40 Try.sizeOf40 (Up.len (Up.noFi_ok (Up.noNx_ok k2))) (fun w' h => (ho3.grow (hp_below h)).range) rfl rfl ?_
  refine lx_callC rfl rfl ent28 (fun w1 hC hG => hup_calls (u2.noNx.noFi.re ka18 kc18 ba18 bc18) (Up.re_ok (Up.noFi_ok (Up.noNx_ok k2)) hc18) (Nat.zero_le _) (show u2.sy.bs.length ≤ 100000 by omega) none 0 u2.sy.ba u2.sy.bc (Nat.le_refl _) w1 hG (rws_nil _ _) (rws_nil _ _) (hb18.grow (hp_below hC)) (hbs.grow (hp_below hC))) rfl rfl ?_
  refine lx_pick rfl rfl rfl rfl rfl ?_
  refine lx_assign rfl rfl rfl ?_
  refine lx_nil ?_
  refine x_ret ?_
  repeat (first | refine kseq_ret ?_ | refine kblk_ret ?_)
  exact kret_tmp rfl rfl (fun w' hw' => ⟨rfl, hW.trans (hp_below hw')⟩)
end Go.Proofs.Ytlaanjcnfindnaa
