/-
  The known update.
-/
import Derived.Test.YtlaanjcnfindnaaVO
namespace Go.Proofs.Ytlaanjcnfindnaa
open Go.RowKit
set_option maxRecDepth 100000
set_option maxHeartbeats 1000000

theorem bldU6 (w : World) : (Instr.build 40 #[(6, U64 9#64)]).run Try.prog w = .ok (.agg (UC Hd0.cs Co0 ((Zs 160).map U8) Hd0.cs ((Zs 192).map U8) Ag0 [U64 9#64]).toArray) w :=
  run_buildP (c := (Hd0.cs ++ (Co0 ++ ((Zs 160).map U8 ++ (Hd0.cs ++ ((Zs 192).map U8 ++ Ag0))))) ++ ([U64 0] ++ [])) (ps := #[(0, 98), (98, 49), (147, 160), (307, 98), (405, 192), (597, 97), (694, 1)]) zvU Try.underlying40 (fun w => by simp [Try.sizeOf26, Try.sizeOf31, Try.sizeOf32, Try.sizeOf33, Try.sizeOf38, Try.sizeOf22]) [(6, U64 9#64)] (by
    rw [fill_app (pre := Hd0.cs ++ (Co0 ++ ((Zs 160).map U8 ++ (Hd0.cs ++ ((Zs 192).map U8 ++ Ag0))))) (old := [U64 0]) (vs := [U64 9#64]) (by decide +kernel) rfl rfl]
    simp [Instr.fill, UC]) w
def u9 (b : Nat) : Up := ⟨Hd0, ⟨[], none, 0, Z48⟩, Zs 160, Hd0, Zs 192, ⟨[true, false], some ⟨b, 0, none⟩, 2, Z96⟩, 9#64⟩
theorem u9_ok (b : Nat) : (u9 b).Ok := ⟨Hd0_ok, ⟨fun _ h => (by cases h), rfl, Nat.le_refl _⟩, rfl, Hd0_ok, rfl, ⟨rfl⟩⟩
def x9 : By := Hd0.by ++ ((pb [true, false] 2 ++ Z96) ++ le8 9#64 8)
theorem u9_by (b : Nat) : (u9 b).opt = x9 := rfl
theorem x9_len : x9.length = 217 := by decide
def y9 : By := x9.set 112 4#8
theorem y9_len : y9.length = 217 := by decide
theorem x9_c : cleanB (sub x9 112 (szB 2)) 2 = true := by decide +kernel
theorem y9_c : cleanB (sub y9 112 (szB 2)) 2 = false := by decide +kernel
theorem x9_b : bt (sub x9 112 (szB 2)) 2 = [true, false] := by decide +kernel
theorem x9_s : pn (sub x9 (112 + szB 2 + 96) 8) 8 = 9#64 := by decide +kernel
theorem U_set {p0 p1 p2 p3 p4 r p6 : List Value} {x v : Value} (h : UL p0 p1 p2 p3 p4 (x :: r) p6) : (UC p0 p1 p2 p3 p4 (x :: r) p6).set 597 v = UC p0 p1 p2 p3 p4 (v :: r) p6 := by
  have := lay_mV (pre := p0 ++ (p1 ++ (p2 ++ (p3 ++ p4)))) (old := [x]) (post := r ++ p6) (vs := [v]) (o := 597) (by simp [h.l0, h.l1, h.l2, h.l3, h.l4]) rfl
  simpa [UC, lay] using this
theorem take_set9 {c : List Value} (h : c.take x9.length = x9.map U8) : (c.set 112 (U8 4#8)).take y9.length = y9.map U8 := by
  rw [show y9.length = x9.length from by decide, List.take_set, h, y9, List.map_set]
theorem bits_some {w : World} {a : Option Addr} {cap : Nat} (h : SlV 4 w a cap ([true, false].map .bool)) : ∃ b c, a = some ⟨b, 0, none⟩ ∧ OwnB w b c 4 ∧ c.take 2 = [.bool true, .bool false] := by
  rcases h with ⟨_, h, _⟩ | ⟨b, c, h1, h2, _, _, h5⟩
  · cases h
  · exact ⟨b, c, h1, h2, h5⟩
theorem dO_2 (hT : TypesP) (b k : Nat) (xs : By) (hx : xs.length = 217) (hc : 217 ≤ k) (hcl : cleanB (sub xs 112 (szB 2)) 2 = true) (w : World) (hw : Gt w) (hb : BytesAt w (some ⟨b, 0, none⟩) xs) (hl : b < w.heap.size) : Calls Try.prog 25 [.slice (some ⟨b, 0, none⟩) 217 k, I 2].toArray w (fun e w' => Grow w w' ∧ ∃ ba bc, e = .returned (.tuple #[.agg (UC (hdOf xs).cs Co0 ((Zs 160).map U8) Hd0.cs ((Zs 192).map U8) (Value.slice ba (bt (sub xs 112 (szB 2)) 2).length bc :: (sub xs (112 + szB 2) 96).map U8) [U64 (pn (sub xs (112 + szB 2 + 96) 8) 8)]).toArray, I 0]) ∧ SlV 4 w' ba bc ((bt (sub xs 112 (szB 2)) 2).map .bool) ∧ ∀ ad, ba = some ad → w.heap.size ≤ ad.block) := by
  have := hT.decO 2 2 (by decide) xs (some ⟨b, 0, none⟩) k (by omega) (by omega) w hw hb (fun ad e => by cases e; exact hl)
  rw [hx] at this
  exact this.mono fun e w' h => ⟨h.1, h.2.1 (by decide) hcl⟩
theorem dO_n (hT : TypesP) (b k : Nat) (xs : By) (hx : xs.length = 217) (hc : 217 ≤ k) (hcl : cleanB (sub xs 112 (szB 2)) 2 = false) (w : World) (hw : Gt w) (hb : BytesAt w (some ⟨b, 0, none⟩) xs) (hl : b < w.heap.size) : Calls Try.prog 25 [.slice (some ⟨b, 0, none⟩) 217 k, I 2].toArray w (fun e w' => e = .returned (.tuple #[.agg U0.toArray, I 171]) ∧ Grow w w') := by
  have := hT.decO 2 2 (by decide) xs (some ⟨b, 0, none⟩) k (by omega) (by omega) w hw hb (fun ad e => by cases e; exact hl)
  rw [hx] at this
  exact this.mono fun e w' h => ⟨h.2.2.1 (by decide) hcl, h.1⟩
theorem dO_16 (hT : TypesP) (b k : Nat) (xs : By) (hx : xs.length = 217) (hc : 217 ≤ k) (w : World) (hw : Gt w) (hb : BytesAt w (some ⟨b, 0, none⟩) xs) (hl : b < w.heap.size) : Calls Try.prog 25 [.slice (some ⟨b, 0, none⟩) 217 k, I 16].toArray w (fun e w' => e = .returned (.tuple #[.agg U0.toArray, I 170]) ∧ Grow w w') := by
  have := hT.decO 16 16 (by decide) xs (some ⟨b, 0, none⟩) k (by omega) (by omega) w hw hb (fun ad e => by cases e; exact hl)
  rw [hx] at this
  exact this.mono fun e w' h => ⟨h.2.2.2 (by decide), h.1⟩
theorem UC_g6 {p0 p1 p2 p3 p4 p5 : List Value} {v : Value} (h : UL p0 p1 p2 p3 p4 p5 [v]) : (UC p0 p1 p2 p3 p4 p5 [v])[694]? = some v := by
  have := end_at (pre := p0 ++ (p1 ++ (p2 ++ (p3 ++ (p4 ++ p5))))) (mid := [v]) (o := 694) (by simp [h.l0, h.l1, h.l2, h.l3, h.l4, h.l5]) 0 v rfl
  simpa [UC] using this
theorem UC_g5 {p0 p1 p2 p3 p4 r p6 : List Value} {v : Value} (h : UL p0 p1 p2 p3 p4 (v :: r) p6) : (UC p0 p1 p2 p3 p4 (v :: r) p6)[597]? = some v := by
  have := mid_at (pre := p0 ++ (p1 ++ (p2 ++ (p3 ++ p4)))) (mid := v :: r) (post := p6) (o := 597) (by simp [h.l0, h.l1, h.l2, h.l3, h.l4]) 0 v rfl
  simpa [UC] using this
theorem known19 (hT : TypesP) (w : World) (hw : Gt w) : Calls Try.prog 9 [].toArray w (fun e w' => e = .returned (.bool true) ∧ Grow w w') := by
  have hGF : BOk Gt (pl w) := gt_low.plain hw
  refine calls_of_X (G := Gt) Try.func9 rfl rfl (Hp (pl w) []) (hp_refl (pl w) trivial rides_true) (good_hp hGF) ?_
  refine xs_plain (E := EE [16]) ?_
  refine lx_assign rfl rfl rfl ?_
  refine lx_nil ?_
  refine xs_plain (E := EE [16]) ?_
  refine lx_callC rfl rfl ent30 (fun w1 _ hG => hT.sizes 512 w1 hG) rfl rfl ?_
  rw [show szN 512 = 512 from by decide, show sz1 512 = 24896 from by decide, show sz2 512 = 25368 from by decide, show sz3 512 = 584 from by decide, show sz4 512 = 280 from by decide]
  refine lx_move rfl rfl rfl ?_
  refine lx_ext rfl rfl rfl rfl ?_
  refine lx_ext rfl rfl rfl rfl ?_
  refine lx_ext rfl rfl rfl rfl ?_
  refine lx_ext rfl rfl rfl rfl ?_
  refine lx_assign rfl rfl rfl ?_
  refine lx_assign rfl rfl rfl ?_
  refine lx_assign rfl rfl rfl ?_
  refine lx_assign rfl rfl rfl ?_
  refine lx_nil ?_
  refine xs_plain (E := EE [16]) ?_
  refine lx_build (ps := [(6, .const (U64 9#64))]) (vs := [U64 9#64]) (v := .agg (UC Hd0.cs Co0 ((Zs 160).map U8) Hd0.cs ((Zs 192).map U8) Ag0 [U64 9#64]).toArray) rfl (fun w => bldU6 w) rfl rfl ?_
  refine lx_allocr 5 hGF zvU rfl rfl ?_
  intro b5
  refine lx_storea 5 hGF rfl rfl rfl Try.sizeOf40 (UL.len (⟨by decide, by decide, by decide, by decide, by decide, by decide, by decide⟩ : UL Hd0.cs Co0 ((Zs 160).map U8) Hd0.cs ((Zs 192).map U8) Ag0 [U64 9#64])) U0_len (by decide +kernel) rfl ?_
  refine lx_nil ?_
  refine xs_plain (E := EE [16]) ?_
  refine lx_bslV 20 [.bool true, .bool false] hGF rfl rfl rfl (by decide) (by decide) Try.underlying34 Try.sizeOf4 Try.zeroValue4 rfl rfl rfl ?_
  intro b20
  refine lx_fak 597 rfl Try.underlying40 rfl Try.sizeOf38 (by decide) rfl rfl rfl ?_
  refine lx_fak 597 rfl Try.underlying38 rfl Try.sizeOf34 (by decide) rfl rfl rfl ?_
  refine lx_store 5 hGF rfl rfl rfl Try.sizeOf34 rfl (by rw [UL.len (⟨by decide, by decide, by decide, by decide, by decide, by decide, by decide⟩ : UL Hd0.cs Co0 ((Zs 160).map U8) Hd0.cs ((Zs 192).map U8) Ag0 [U64 9#64])]; decide) rfl ?_
  rw [show (UC Hd0.cs Co0 ((Zs 160).map U8) Hd0.cs ((Zs 192).map U8) Ag0 [U64 9#64]).set 597 (.slice (some ⟨b20, 0, none⟩) [Value.bool true, .bool false].length [Value.bool true, .bool false].length) = (u9 b20).cs from U_set (⟨by decide, by decide, by decide, by decide, by decide, by decide, by decide⟩ : UL Hd0.cs Co0 ((Zs 160).map U8) Hd0.cs ((Zs 192).map U8) Ag0 [U64 9#64])]
  refine lx_nil ?_
  refine xs_plain (E := EE [16]) ?_
  refine lx_loada 5 rfl rfl Try.isAgg40 Try.sizeOf40 (Up.len (u9_ok _)) rfl rfl ?_
  refine lx_callE rfl rfl ent16 rfl rfl (fun w' hw' => (hT.encO (u9 b20) (u9_ok _) (show 0 ≤ 1000 by decide) (show 2 ≤ 1000 by decide) w' (hGF.g _ _ _ hw') (fun i r h => by cases h) (CellsAt.range (hp_row (n := 20) rfl w' hw'))).mono fun e' w'' h => ?_)
  rw [u9_by] at h
  obtain ⟨_, rfl, hg, a24, k24, rfl, hs, hnw⟩ := h
  obtain ⟨b24, c24, rfl, hoo, hcl24, hct24⟩ := slv_some hs (by decide)
  have hcp : 217 ≤ k24 := by have := hs.le; rw [List.length_map, x9_len] at this; exact this
  refine ⟨_, _, rfl, good_hp hGF, hw'.news rides_true hg [(24, b24, c24, 5)] (row1 (hnw _ rfl) hoo) inj_one, ?_⟩
  clear hw' hg hoo hnw hs
  rw [x9_len]
  refine lx_assign rfl rfl rfl ?_
  refine lx_nil ?_
  refine x_seq ?_
  refine xs_plain (E := EE [16]) ?_
  refine lx_move rfl rfl rfl ?_
  refine lx_len rfl (fun _ => len_slice Try.underlying46 _ _ _ _) rfl rfl ?_
  refine lx_binB false rfl rfl (fun _ => rfl) (fun _ => bin_neq_i _ _ _) (by decide) rfl rfl ?_
  refine lx_nil ?_
  refine x_false rfl ?_
  refine x_skip ?_
  refine xs_plain (E := EE [25]) ?_
  refine lx_move rfl rfl rfl ?_
  refine lx_callE rfl rfl ent25 rfl rfl (fun w' hw' => (dO_2 hT b24 k24 x9 x9_len hcp x9_c w' (hGF.g _ _ _ hw') (row_by (n := 24) rfl hct24 w' hw') (hw'.own 24 _ _ _ rfl).1.lt).mono fun e' w'' h => ?_)
  obtain ⟨hg, ba, bc, rfl, hbt, hbn⟩ := h
  rw [x9_b] at hbt ⊢
  rw [x9_s]
  obtain ⟨bb, cb, rfl, hob, htb⟩ := bits_some hbt
  refine ⟨_, _, rfl, good_hp hGF, hw'.news rides_true hg [(30, bb, cb, 4)] (row1 (hbn _ rfl) hob) inj_one, ?_⟩
  clear hw' hg hbt hbn hob
  refine lx_move rfl rfl rfl ?_
  refine lx_ext rfl rfl rfl rfl ?_
  refine lx_ext rfl rfl rfl rfl ?_
  refine lx_allocr 7 hGF zvU rfl rfl ?_
  intro b7
  refine lx_storea 7 hGF rfl rfl rfl Try.sizeOf40 (UL.len (⟨by decide, by decide, by decide, by decide, by decide, by simp [sub_len (show 112 + szB 2 + 96 ≤ x9.length by decide)], by decide⟩ : UL (hdOf x9).cs Co0 ((Zs 160).map U8) Hd0.cs ((Zs 192).map U8) (Value.slice (some ⟨bb, 0, none⟩) [true, false].length bc :: (sub x9 (112 + szB 2) 96).map U8) [U64 9#64])) U0_len (UC_one (Hd.one _) (by decide) (one_u8 _) (Hd.one _) (one_u8 _) (CoC_one _ _ _ _) rfl) rfl ?_
  refine lx_assign rfl rfl rfl ?_
  refine lx_nil ?_
  refine xs_plain (E := EE [16]) ?_
  refine lx_move rfl rfl rfl ?_
  refine lx_callC rfl rfl ent25 (fun w' hw' hG => dO_16 hT b24 k24 x9 x9_len hcp w' hG (row_by (n := 24) rfl hct24 w' hw') (hw'.own 24 _ _ _ rfl).1.lt) rfl rfl ?_
  refine lx_move rfl rfl rfl ?_
  refine lx_ext rfl rfl rfl rfl ?_
  refine lx_ext rfl rfl rfl rfl ?_
  refine lx_allocr 9 hGF zvU rfl rfl ?_
  intro b9
  refine lx_storea 9 hGF rfl rfl rfl Try.sizeOf40 (U0_len) U0_len (by decide +kernel) rfl ?_
  refine lx_assign rfl rfl rfl ?_
  refine lx_nil ?_
  refine xs_plain (E := EE [16]) ?_
  refine lx_move rfl rfl rfl ?_
  refine lx_is0 112 rfl rfl Try.underlying46 Try.sizeOf5 rfl (by decide) rfl rfl ?_
  refine lx_store 24 hGF rfl rfl rfl Try.sizeOf5 rfl (by omega) rfl ?_
  refine lx_nil ?_
  refine xs_plain (E := EE [16]) ?_
  refine lx_move rfl rfl rfl ?_
  refine lx_callC rfl rfl ent25 (fun w' hw' hG => dO_n hT b24 k24 y9 y9_len hcp y9_c w' hG (row_by (n := 24) rfl (take_set9 hct24) w' hw') (hw'.own 24 _ _ _ rfl).1.lt) rfl rfl ?_
  refine lx_move rfl rfl rfl ?_
  refine lx_ext rfl rfl rfl rfl ?_
  refine lx_ext rfl rfl rfl rfl ?_
  refine lx_allocr 11 hGF zvU rfl rfl ?_
  intro b11
  refine lx_storea 11 hGF rfl rfl rfl Try.sizeOf40 (U0_len) U0_len (by decide +kernel) rfl ?_
  refine lx_assign rfl rfl rfl ?_
  refine lx_nil ?_
  refine xs_plain (E := EE [16]) ?_
  refine lx_move rfl rfl rfl ?_
  refine lx_binB true rfl rfl (fun _ => rfl) (fun _ => bin_eql_i _ _ _) (by decide) rfl rfl ?_
  refine lx_move rfl rfl rfl ?_
  refine lx_move rfl rfl rfl ?_
  refine lx_binB true rfl rfl (fun _ => rfl) (fun _ => bin_eql_i _ _ _) (by decide) rfl rfl ?_
  refine lx_pick rfl rfl rfl rfl rfl ?_
  refine lx_move rfl rfl rfl ?_
  refine lx_move rfl rfl rfl ?_
  refine lx_binB true rfl rfl (fun _ => rfl) (fun _ => bin_eql_i _ _ _) (by decide) rfl rfl ?_
  refine lx_pick rfl rfl rfl rfl rfl ?_
  refine lx_move rfl rfl rfl ?_
  refine lx_move rfl rfl rfl ?_
  refine lx_binB true rfl rfl (fun _ => rfl) (fun _ => bin_eql_i _ _ _) (by decide) rfl rfl ?_
  refine lx_pick rfl rfl rfl rfl rfl ?_
  refine lx_move rfl rfl rfl ?_
  refine lx_move rfl rfl rfl ?_
  refine lx_len rfl (fun _ => len_slice Try.underlying46 _ _ _ _) rfl rfl ?_
  refine lx_binB true rfl rfl (fun _ => rfl) (fun _ => bin_eql_i _ _ _) (by decide) rfl rfl ?_
  refine lx_pick rfl rfl rfl rfl rfl ?_
  refine lx_move rfl rfl rfl ?_
  refine lx_move rfl rfl rfl ?_
  refine lx_binB true rfl rfl (fun _ => rfl) (fun _ => bin_eql_i _ _ _) (by decide) rfl rfl ?_
  refine lx_pick rfl rfl rfl rfl rfl ?_
  refine lx_move rfl rfl rfl ?_
  refine lx_fak 694 rfl Try.underlying40 rfl Try.sizeOf22 (by decide) rfl rfl rfl ?_
  refine lx_load (v := U64 9#64) rfl Try.isAgg22 (fun w' h => (rg_at (ds := [_]) (hp_row (n := 7) rfl w' h) (one_at (UC_g6 (⟨by decide, by decide, by decide, by decide, by decide, by simp [sub_len (show 112 + szB 2 + 96 ≤ x9.length by decide)], by decide⟩ : UL (hdOf x9).cs Co0 ((Zs 160).map U8) Hd0.cs ((Zs 192).map U8) (Value.slice (some ⟨bb, 0, none⟩) [true, false].length bc :: (sub x9 (112 + szB 2) 96).map U8) [U64 9#64])))) 0 _ rfl) rfl rfl ?_
  refine lx_binB true rfl rfl (fun _ => rfl) (fun _ => bin_eql_u64 _ _ _) (by decide) rfl rfl ?_
  refine lx_pick rfl rfl rfl rfl rfl ?_
  refine lx_move rfl rfl rfl ?_
  refine lx_fak 597 rfl Try.underlying40 rfl Try.sizeOf38 (by decide) rfl rfl rfl ?_
  refine lx_fak 597 rfl Try.underlying38 rfl Try.sizeOf34 (by decide) rfl rfl rfl ?_
  refine lx_load (v := .slice (some ⟨bb, 0, none⟩) [true, false].length bc) rfl Try.isAgg34 (fun w' h => (rg_at (ds := [_]) (hp_row (n := 7) rfl w' h) (one_at (UC_g5 (⟨by decide, by decide, by decide, by decide, by decide, by simp [sub_len (show 112 + szB 2 + 96 ≤ x9.length by decide)], by decide⟩ : UL (hdOf x9).cs Co0 ((Zs 160).map U8) Hd0.cs ((Zs 192).map U8) (Value.slice (some ⟨bb, 0, none⟩) [true, false].length bc :: (sub x9 (112 + szB 2) 96).map U8) [U64 9#64])))) 0 _ rfl) rfl rfl ?_
  refine lx_len rfl (fun _ => len_slice Try.underlying34 _ _ _ _) rfl rfl ?_
  refine lx_binB true rfl rfl (fun _ => rfl) (fun _ => bin_eql_i _ _ _) (by decide) rfl rfl ?_
  refine lx_pick rfl rfl rfl rfl rfl ?_
  refine lx_move rfl rfl rfl ?_
  refine lx_fak 597 rfl Try.underlying40 rfl Try.sizeOf38 (by decide) rfl rfl rfl ?_
  refine lx_fak 597 rfl Try.underlying38 rfl Try.sizeOf34 (by decide) rfl rfl rfl ?_
  refine lx_load (v := .slice (some ⟨bb, 0, none⟩) [true, false].length bc) rfl Try.isAgg34 (fun w' h => (rg_at (ds := [_]) (hp_row (n := 7) rfl w' h) (one_at (UC_g5 (⟨by decide, by decide, by decide, by decide, by decide, by simp [sub_len (show 112 + szB 2 + 96 ≤ x9.length by decide)], by decide⟩ : UL (hdOf x9).cs Co0 ((Zs 160).map U8) Hd0.cs ((Zs 192).map U8) (Value.slice (some ⟨bb, 0, none⟩) [true, false].length bc :: (sub x9 (112 + szB 2) 96).map U8) [U64 9#64])))) 0 _ rfl) rfl rfl ?_
  refine lx_is0 0 rfl rfl Try.underlying34 Try.sizeOf4 rfl (by decide) rfl rfl ?_
  refine lx_load (v := .bool true) rfl Try.isAgg4 (fun w' h => hp_row (n := 30) rfl w' h 0 _ (by have := congrArg (·[0]?) htb; simpa [List.getElem?_take] using this)) rfl rfl ?_
  refine lx_pick rfl rfl rfl rfl rfl ?_
  refine lx_move rfl rfl rfl ?_
  refine lx_move rfl rfl rfl ?_
  refine lx_binB true rfl rfl (fun _ => rfl) (fun _ => bin_eql_i _ _ _) (by decide) rfl rfl ?_
  refine lx_pick rfl rfl rfl rfl rfl ?_
  refine lx_move rfl rfl rfl ?_
  refine lx_move rfl rfl rfl ?_
  refine lx_binB true rfl rfl (fun _ => rfl) (fun _ => bin_eql_i _ _ _) (by decide) rfl rfl ?_
  refine lx_pick rfl rfl rfl rfl rfl ?_
  refine lx_assign rfl rfl rfl ?_
  refine lx_nil ?_
  refine x_ret ?_
  repeat (first | refine kseq_ret ?_ | refine kblk_ret ?_)
  exact kret_tmp rfl rfl (fun w' hw' => ⟨rfl, hp_below hw'⟩)
end Go.Proofs.Ytlaanjcnfindnaa
