/-
  The document's reader: headers, committees, aggregates, the end.
-/
import Derived.Test.YtlaanjcnfindnaaVD
namespace Go.Proofs.Ytlaanjcnfindnaa
open Go.RowKit
set_option maxRecDepth 100000
set_option maxHeartbeats 1000000

theorem fill_app {place : Nat → Option (Nat × Nat)} {i : Nat} {v : Value} {vs pre old post : List Value} (hp : place i = some (pre.length, old.length)) (hv : v.cells = vs.toArray) (hs : vs.length = old.length) (rest : List (Nat × Value)) : Instr.fill place (pre ++ (old ++ post)).toArray ((i, v) :: rest) = Instr.fill place ((pre ++ vs) ++ post).toArray rest := by
  rw [fill_mid hp hv hs (by simp; omega)]
  congr 2
  rw [List.take_left' rfl, hs, ← List.append_assoc pre, List.drop_left' (by simp)]
def Z32 : By := List.replicate 32 0#8
def Hd0 : Hd := ⟨0, 0, Z32, Z32, Z32⟩
theorem Hd0_ok : Hd0.Ok := ⟨rfl, rfl, rfl⟩
theorem zvHd (w : World) : (zeroValue 26).run Try.prog w = .ok (.agg Hd0.cs.toArray) w := (Try.zeroValue26 w).trans (by rfl)
theorem bldHd (h : Hd) (hk : h.Ok) (w : World) : (Instr.build 26 #[(0, U64 h.s), (1, U64 h.p), (2, .agg (h.a.map U8).toArray), (3, .agg (h.b.map U8).toArray), (4, .agg (h.c.map U8).toArray)]).run Try.prog w = .ok (.agg h.cs.toArray) w :=
  run_buildP (c := [] ++ ([U64 0] ++ ([U64 0] ++ (Z32.map U8 ++ (Z32.map U8 ++ (Z32.map U8 ++ [])))))) (ps := #[(0, 1), (1, 1), (2, 32), (34, 32), (66, 32)]) zvHd Try.underlying26 (fun w => by simp [Try.sizeOf22, Try.sizeOf24]) [(0, U64 h.s), (1, U64 h.p), (2, .agg (h.a.map U8).toArray), (3, .agg (h.b.map U8).toArray), (4, .agg (h.c.map U8).toArray)] (by
    rw [fill_app (pre := []) (old := [U64 0]) (vs := [U64 h.s]) rfl rfl rfl, fill_app (pre := [] ++ [U64 h.s]) (old := [U64 0]) (vs := [U64 h.p]) rfl rfl rfl, fill_app (pre := [] ++ [U64 h.s] ++ [U64 h.p]) (old := Z32.map U8) (vs := h.a.map U8) rfl rfl (by rw [List.length_map, hk.a]; rfl), fill_app (pre := [] ++ [U64 h.s] ++ [U64 h.p] ++ h.a.map U8) (old := Z32.map U8) (vs := h.b.map U8) (by rw [List.length_append, List.length_map, hk.a]; rfl) rfl (by rw [List.length_map, hk.b]; rfl), fill_app (pre := [] ++ [U64 h.s] ++ [U64 h.p] ++ h.a.map U8 ++ h.b.map U8) (old := Z32.map U8) (vs := h.c.map U8) (by rw [List.length_append, List.length_append, List.length_map, List.length_map, hk.a, hk.b]; rfl) rfl (by rw [List.length_map, hk.c]; rfl)]
    simp [Instr.fill, Hd.cs]) w
theorem suk {S : Nat → Prop} {b : Nat} {bs : By} (h : 8 ≤ bs.length) (w : World) (hw : Gt w) (hr : RdAt 84 S w b bs 0) : Calls Try.prog 51 [.pointer (some ⟨b, 0, none⟩)].toArray w (fun r w' => ∃ v, r = .returned v ∧ MM (fun k => k = b) w w' ∧ v = U64 (pn (bs.take 8) 8) ∧ RdAt 84 S w' b (bs.drop 8) 0) := by
  have := su_calls S b bs 0 w hw (Nat.zero_le _) hr
  obtain ⟨e1, e2, e3⟩ := rd_k h
  rw [e1, e2, e3, List.length_take, Nat.min_eq_left h] at this
  exact this
theorem r32k {S : Nat → Prop} {b : Nat} {bs : By} (h : 32 ≤ bs.length) (w : World) (hw : Gt w) (hb : b < w.heap.size) (hr : RdAt 84 S w b bs 0) (hSz : ∀ k, S k → k < w.heap.size) : Calls Try.prog 47 [.pointer (some ⟨b, 0, none⟩)].toArray w (fun r w' => ∃ v, r = .returned v ∧ MM (fun k => k = b) w w' ∧ v = .agg ((bs.take 32).map U8).toArray ∧ RdAt 84 S w' b (bs.drop 32) 0) := by
  have := r32_calls S b bs 0 w hw hb hr hSz
  obtain ⟨e1, e2, e3⟩ := rd_k h
  rw [e1, e2, e3, pad_all (by rw [List.length_take]; omega)] at this
  exact this
theorem rkyk {S : Nat → Prop} {b : Nat} {bs : By} (h : 48 ≤ bs.length) (w : World) (hw : Gt w) (hb : b < w.heap.size) (hr : RdAt 84 S w b bs 0) (hSz : ∀ k, S k → k < w.heap.size) : Calls Try.prog 64 [.pointer (some ⟨b, 0, none⟩)].toArray w (fun r w' => ∃ v, r = .returned v ∧ MM (fun k => k = b) w w' ∧ v = .agg ((bs.take 48).map U8).toArray ∧ RdAt 84 S w' b (bs.drop 48) 0) := by
  have := rky_calls S b bs 0 w hw hb hr hSz
  obtain ⟨e1, e2, e3⟩ := rd_k h
  rw [e1, e2, e3, pad_all (by rw [List.length_take]; omega)] at this
  exact this
def sub (bs : By) (o n : Nat) : By := (bs.drop o).take n
theorem sub_len {bs : By} {o n : Nat} (h : o + n ≤ bs.length) : (sub bs o n).length = n := by rw [sub, List.length_take, List.length_drop]; omega
def hdOf (bs : By) : Hd := ⟨pn (sub bs 0 8) 8, pn (sub bs 8 8) 8, sub bs 16 32, sub bs 48 32, sub bs 80 32⟩
theorem hdOf_ok {bs : By} (h : 112 ≤ bs.length) : (hdOf bs).Ok := ⟨sub_len (by omega), sub_len (by omega), sub_len (by omega)⟩
theorem Hd.one (h : Hd) : h.cs.all (·.oneCell') = true := by
  unfold Hd.cs
  rw [List.all_cons, List.all_cons, List.all_append, List.all_append, one_u8, one_u8, one_u8]
  rfl
theorem rhd_calls (S : Nat → Prop) (b : Nat) (bs : By) (h112 : 112 ≤ bs.length) (w : World) (hw : Gt w) (hb : b < w.heap.size) (hrd : RdAt 84 S w b bs 0) (hSz : ∀ k, S k → k < w.heap.size) : Calls Try.prog 45 [.pointer (some ⟨b, 0, none⟩)].toArray w (fun r w' => ∃ v, r = .returned v ∧ MM (fun k => k = b) w w' ∧ v = .agg (hdOf bs).cs.toArray ∧ RdAt 84 S w' b (bs.drop 112) (0)) := by
  have hGF : BOk Gt (pl w) := gt_low.plain hw
  refine calls_of_X (G := Gt) Try.func45 rfl rfl (Hp (pl w) []) (hp_refl (pl w) trivial rides_true) (good_hp hGF) ?_
  refine xs_plain (E := EE []) ?_
  refine lx_allocr 2 hGF zvHd rfl rfl ?_
  intro b2
  refine lx_nil ?_
  refine x_now0 gt_low (fun w3 hC g3 => ?_)
  have hM : MM (fun k => k = b) w w3 := grow_mm (hp_below hC)
  have hrd := hrd.grow (hp_below hC)
  have ho2 := (hC.own 2 _ _ _ rfl).1
  have hz2 : w.heap.size ≤ b2 := (hC.own 2 _ _ _ rfl).2.elim id False.elim
  have hn2 : b2 ≠ b := fun e => by omega
  clear hC
  have hGF := gt_low.plain g3
  rw [show bs = bs.drop 0 from rfl] at hrd
  refine xs_plain (E := EE [51, 47]) ?_
  refine lx_move rfl rfl rfl ?_
  refine lx_callW gt_low (M := fun k => k = b) (fun k _ => Nat.zero_le k) rfl rfl ent51 rfl rfl hGF (Q := fun w1 w2 v => v = U64 (pn (sub bs 0 8) 8) ∧ RdAt 84 S w2 b (bs.drop 8) 0) (fun w1 h1 g1 => (suk (by rw [List.length_drop]; omega) w1 g1 (hrd.grow h1)).mono fun r w2 ⟨v, q1, q2, q3, q4⟩ => ⟨v, q1, q2, q3, by rw [List.drop_drop] at q4; exact q4⟩) (fun w4a w4 v hg4 hm4 gg4 hq => ?_)
  have hGF := gt_low.plain gg4
  have hM := (hM.trans (grow_mm hg4)).trans hm4
  have ho2 := hm4.own (ho2.grow hg4) hn2
  obtain ⟨rfl, hrd⟩ := hq
  clear hg4 hm4
  refine lx_move rfl rfl rfl ?_
  refine lx_callW gt_low (M := fun k => k = b) (fun k _ => Nat.zero_le k) rfl rfl ent51 rfl rfl hGF (Q := fun w1 w2 v => v = U64 (pn (sub bs 8 8) 8) ∧ RdAt 84 S w2 b (bs.drop 16) 0) (fun w1 h1 g1 => (suk (by rw [List.length_drop]; omega) w1 g1 (hrd.grow h1)).mono fun r w2 ⟨v, q1, q2, q3, q4⟩ => ⟨v, q1, q2, q3, by rw [List.drop_drop] at q4; exact q4⟩) (fun w6a w6 v hg6 hm6 gg6 hq => ?_)
  have hGF := gt_low.plain gg6
  have hM := (hM.trans (grow_mm hg6)).trans hm6
  have ho2 := hm6.own (ho2.grow hg6) hn2
  obtain ⟨rfl, hrd⟩ := hq
  clear hg6 hm6
  refine lx_move rfl rfl rfl ?_
  refine lx_callW gt_low (M := fun k => k = b) (fun k _ => Nat.zero_le k) rfl rfl ent47 rfl rfl hGF (Q := fun w1 w2 v => v = .agg ((sub bs 16 32).map U8).toArray ∧ RdAt 84 S w2 b (bs.drop 48) 0) (fun w1 h1 g1 => (r32k (by rw [List.length_drop]; omega) w1 g1 (by have := hM.size; have := h1.size; omega) (hrd.grow h1) (fun k hk => by have := hSz k hk; have := hM.size; have := h1.size; omega)).mono fun r w2 ⟨v, q1, q2, q3, q4⟩ => ⟨v, q1, q2, q3, by rw [List.drop_drop] at q4; exact q4⟩) (fun w8a w8 v hg8 hm8 gg8 hq => ?_)
  have hGF := gt_low.plain gg8
  have hM := (hM.trans (grow_mm hg8)).trans hm8
  have ho2 := hm8.own (ho2.grow hg8) hn2
  obtain ⟨rfl, hrd⟩ := hq
  clear hg8 hm8
  refine lx_move rfl rfl rfl ?_
  refine lx_callW gt_low (M := fun k => k = b) (fun k _ => Nat.zero_le k) rfl rfl ent47 rfl rfl hGF (Q := fun w1 w2 v => v = .agg ((sub bs 48 32).map U8).toArray ∧ RdAt 84 S w2 b (bs.drop 80) 0) (fun w1 h1 g1 => (r32k (by rw [List.length_drop]; omega) w1 g1 (by have := hM.size; have := h1.size; omega) (hrd.grow h1) (fun k hk => by have := hSz k hk; have := hM.size; have := h1.size; omega)).mono fun r w2 ⟨v, q1, q2, q3, q4⟩ => ⟨v, q1, q2, q3, by rw [List.drop_drop] at q4; exact q4⟩) (fun w10a w10 v hg10 hm10 gg10 hq => ?_)
  have hGF := gt_low.plain gg10
  have hM := (hM.trans (grow_mm hg10)).trans hm10
  have ho2 := hm10.own (ho2.grow hg10) hn2
  obtain ⟨rfl, hrd⟩ := hq
  clear hg10 hm10
  refine lx_move rfl rfl rfl ?_
  refine lx_callW gt_low (M := fun k => k = b) (fun k _ => Nat.zero_le k) rfl rfl ent47 rfl rfl hGF (Q := fun w1 w2 v => v = .agg ((sub bs 80 32).map U8).toArray ∧ RdAt 84 S w2 b (bs.drop 112) 0) (fun w1 h1 g1 => (r32k (by rw [List.length_drop]; omega) w1 g1 (by have := hM.size; have := h1.size; omega) (hrd.grow h1) (fun k hk => by have := hSz k hk; have := hM.size; have := h1.size; omega)).mono fun r w2 ⟨v, q1, q2, q3, q4⟩ => ⟨v, q1, q2, q3, by rw [List.drop_drop] at q4; exact q4⟩) (fun w12a w12 v hg12 hm12 gg12 hq => ?_)
  have hGF := gt_low.plain gg12
  have hM := (hM.trans (grow_mm hg12)).trans hm12
  have ho2 := hm12.own (ho2.grow hg12) hn2
  obtain ⟨rfl, hrd⟩ := hq
  clear hg12 hm12
  refine lx_build (ps := [(0, .tmp 4), (1, .tmp 6), (2, .tmp 8), (3, .tmp 10), (4, .tmp 12)]) (vs := [U64 (hdOf bs).s, U64 (hdOf bs).p, .agg ((hdOf bs).a.map U8).toArray, .agg ((hdOf bs).b.map U8).toArray, .agg ((hdOf bs).c.map U8).toArray]) rfl (fun w => bldHd (hdOf bs) (hdOf_ok h112) w) rfl rfl ?_
  refine lx_stW gt_low (fun w' h => hGF.g _ _ _ h) (fun w' h => ho2.grow (hp_below h)) (Nat.zero_le _) rfl rfl Try.sizeOf26 (Hd.len (hdOf_ok h112)) (Hd.one _) (by rw [Hd.len (hdOf_ok h112), Hd.len Hd0_ok]; decide) rfl (fun ws2x1a ws2x1 hC g2 hm h2 => ?_)
  rw [lay_all _ _ (by rw [Hd.len (hdOf_ok h112), Hd.len Hd0_ok])] at h2
  have hM := (hM.trans (grow_mm (hp_below hC))).trans' hm (fun i e hi => by subst e; omega)
  have hrd := (hrd.grow (hp_below hC)).mm hm (fun e => hn2 e.symm) (fun i hi hl e => by have := hSz i hi; subst e; omega)
  have ho2 := h2
  have hGF := gt_low.plain g2
  clear hC hm h2
  refine lx_nil ?_
  refine x_ret ?_
  repeat (first | refine kseq_ret ?_ | refine kblk_ret ?_)
  exact kret_cell rfl rfl Try.isAgg26 Try.sizeOf26 (Hd.len (hdOf_ok h112)) (fun w' h => (ho2.grow (hp_below h)).range) (fun w' hw' => ⟨_, rfl, hM.trans (grow_mm (hp_below hw')), rfl, hrd.grow (hp_below hw')⟩)
end Go.Proofs.Ytlaanjcnfindnaa
