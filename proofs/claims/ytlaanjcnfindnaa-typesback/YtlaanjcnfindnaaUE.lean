/-
  The program's lists of fields.
-/
import Derived.Test.YtlaanjcnfindnaaUD
namespace Go.Proofs.Ytlaanjcnfindnaa
open Go.RowKit
set_option maxRecDepth 100000
set_option maxHeartbeats 1000000

theorem ent56 : Enters Try.prog 56 := fun _ _ => by kernel_rfl
theorem ent57 : Enters Try.prog 57 := fun _ _ => by kernel_rfl
theorem ent59 : Enters Try.prog 59 := fun _ _ => by kernel_rfl
theorem ent58 : Enters Try.prog 58 := fun _ _ => by kernel_rfl
theorem ent34 : Enters Try.prog 34 := fun _ _ => by kernel_rfl
theorem ent39 : Enters Try.prog 39 := fun _ _ => by kernel_rfl
theorem ent40 : Enters Try.prog 40 := fun _ _ => by kernel_rfl
theorem ent41 : Enters Try.prog 41 := fun _ _ => by kernel_rfl
theorem ent55 : Enters Try.prog 55 := fun _ _ => by kernel_rfl
theorem ent68 : Enters Try.prog 68 := fun _ _ => by kernel_rfl
theorem Fd.Nw.low {f : Fd} {w w' : World} (h : f.Nw w') (hg : Grow w w') : f.Nw w := ⟨Nat.le_trans hg.size h.1, Nat.le_trans hg.size h.2⟩
/-- A list of fields that was made. -/
def LsR (w w' : World) (b : Nat) (sp : List Sp) (v : Value) : Prop := ∃ (L : List Fd) (a : Option Addr) (c : Nat), v = .slice a L.length c ∧ L.length ≤ c ∧ L.map Fd.s = sp ∧ CellsAt w' a (L.flatMap Fd.cs) ∧ ∀ f ∈ L, f.Ok b w' ∧ f.Nw w
theorem flm_len (L : List Fd) : (L.flatMap Fd.cs).length = L.length * 3 := flat_len (s := 3) (L.map Fd.cs) (fun r hr => by obtain ⟨f, _, rfl⟩ := List.mem_map.1 hr; rfl) |>.trans (by rw [List.length_map])
theorem flm_one (L : List Fd) : ∀ u ∈ L.flatMap Fd.cs, u.oneCell' = true := fun u hu => by
  obtain ⟨f, _, hf⟩ := List.mem_flatMap.1 hu
  exact List.all_eq_true.1 f.all u hf
theorem rows3 {L : List Fd} : ∀ r ∈ L.map Fd.cs, r.length = 3 := fun r hr => by obtain ⟨f, _, rfl⟩ := List.mem_map.1 hr; rfl
def hdS (o : Nat) : List Sp := [⟨0, o, 0⟩, ⟨0, o + 1, 0⟩, ⟨1, o + 2, 32⟩, ⟨1, o + 34, 32⟩, ⟨1, o + 66, 32⟩]
def coS (o n : Nat) : List Sp := [⟨3, o, n⟩, ⟨1, o + 1, 48⟩]
def agS (o n : Nat) : List Sp := [⟨2, o, n⟩, ⟨1, o + 1, 96⟩]
def brS (o m : Nat) : List Sp := (List.range m).map fun i => ⟨1, o + 32 * i, 32⟩
theorem tiF : TI Try.prog 101 (.agg [I 0, .nilFunc, .nilFunc].toArray) 3 24 := ti_mk (by kernel_rfl)
/-- All fields of a list hold what they hold. -/
structure AllOk (b : Nat) (L : List Fd) (w : World) : Prop where
  h : ∀ f ∈ L, f.Ok b w
theorem AllOk.grow {b : Nat} {L : List Fd} {w w' : World} (h : AllOk b L w) (hg : Grow w w') : AllOk b L w' := ⟨fun f hf => (h.h f hf).grow hg⟩
theorem hd_calls (b o : Nat)   (w : World) (hw : Gt w) : Calls Try.prog 56 [pt b o].toArray w (fun e w' => ∃ v, e = .returned v ∧ Grow w w' ∧ LsR w w' b (hdS o) v) := by
  have hGF : BOk Gt (pl w) := gt_low.plain hw
  refine calls_of_X (G := Gt) Try.func56 rfl rfl (Hp (pl w) []) (hp_refl (pl w) trivial rides_true) (good_hp hGF) ?_
  refine xs_plain (E := EE [60, 69]) ?_
  refine lx_assign rfl rfl rfl ?_
  refine lx_nil ?_
  refine xs_draws (E := EE [60, 69]) [0, 1, 2, 4, 5, 6, 8, 9, 10, 11, 13, 14, 15, 16, 18, 19, 20, 21, 3, 7, 12, 17, 22, 23, 24] mixed rfl (by kernel_rfl) (by kernel_rfl) (by kernel_rfl) ?_
  refine lx_move rfl rfl rfl ?_
  refine lx_nilc rfl rfl rfl ?_
  refine lx_fak (o) rfl Try.underlying26 rfl Try.sizeOf22 (by decide) rfl rfl rfl ?_
  refine lx_move rfl rfl rfl ?_
  refine lx_nilc rfl rfl rfl ?_
  refine lx_fak (o + 1) rfl Try.underlying26 rfl Try.sizeOf22 (by decide) rfl rfl rfl ?_
  refine lx_move rfl rfl rfl ?_
  refine lx_nilc rfl rfl rfl ?_
  refine lx_fak (o + 2) rfl Try.underlying26 rfl Try.sizeOf24 (by decide) rfl rfl rfl ?_
  refine lx_slarr0 rfl Try.underlying24 Try.sizeOf5 (by decide) rfl rfl ?_
  refine lx_move rfl rfl rfl ?_
  refine lx_nilc rfl rfl rfl ?_
  refine lx_fak (o + 34) rfl Try.underlying26 rfl Try.sizeOf24 (by decide) rfl rfl rfl ?_
  refine lx_slarr0 rfl Try.underlying24 Try.sizeOf5 (by decide) rfl rfl ?_
  refine lx_move rfl rfl rfl ?_
  refine lx_nilc rfl rfl rfl ?_
  refine lx_fak (o + 66) rfl Try.underlying26 rfl Try.sizeOf24 (by decide) rfl rfl rfl ?_
  refine lx_slarr0 rfl Try.underlying24 Try.sizeOf5 (by decide) rfl rfl ?_
  refine lx_callW gt_low (M := fun _ => False) (fun k h => h.elim) rfl rfl ent60 rfl rfl hGF (Q := fun w1 w2 v => FdR w1 w2 b ⟨0, o, 0⟩ v) (fun w1 h1 g1 => (num_calls b o w1 g1).mono fun e w2 ⟨v, q1, q2, q3⟩ => ⟨v, q1, grow_mm q2, q3⟩) (fun w6a w6 v6 hg6 hm6 gg6 hq6 => ?_)
  have hm6 := hm6.grow (fun _ _ h => h)
  have hr6 := hg6.trans hm6
  have hGF := gt_low.plain gg6
  obtain ⟨f6, rfl, hs6, hk6, hn6⟩ := hq6
  have hn6 := hn6.low hg6
  have hG := hr6
  refine lx_callW gt_low (M := fun _ => False) (fun k h => h.elim) rfl rfl ent60 rfl rfl hGF (Q := fun w1 w2 v => FdR w1 w2 b ⟨0, o + 1, 0⟩ v) (fun w1 h1 g1 => (num_calls b (o + 1) w1 g1).mono fun e w2 ⟨v, q1, q2, q3⟩ => ⟨v, q1, grow_mm q2, q3⟩) (fun w10a w10 v10 hg10 hm10 gg10 hq10 => ?_)
  have hm10 := hm10.grow (fun _ _ h => h)
  have hr10 := hg10.trans hm10
  have hk6 := hk6.grow hr10
  have hGF := gt_low.plain gg10
  obtain ⟨f10, rfl, hs10, hk10, hn10⟩ := hq10
  have hn10 := hn10.low (hG.trans hg10)
  have hG := hG.trans hr10
  refine lx_callW gt_low (M := fun _ => False) (fun k h => h.elim) rfl rfl ent69 rfl rfl hGF (Q := fun w1 w2 v => FdR w1 w2 b ⟨1, o + 2, 32⟩ v) (fun w1 h1 g1 => (oct_calls b (o + 2) 32 32 (Nat.le_refl _) w1 g1).mono fun e w2 ⟨v, q1, q2, q3⟩ => ⟨v, q1, grow_mm q2, q3⟩) (fun w15a w15 v15 hg15 hm15 gg15 hq15 => ?_)
  have hm15 := hm15.grow (fun _ _ h => h)
  have hr15 := hg15.trans hm15
  have hk6 := hk6.grow hr15
  have hk10 := hk10.grow hr15
  have hGF := gt_low.plain gg15
  obtain ⟨f15, rfl, hs15, hk15, hn15⟩ := hq15
  have hn15 := hn15.low (hG.trans hg15)
  have hG := hG.trans hr15
  refine lx_callW gt_low (M := fun _ => False) (fun k h => h.elim) rfl rfl ent69 rfl rfl hGF (Q := fun w1 w2 v => FdR w1 w2 b ⟨1, o + 34, 32⟩ v) (fun w1 h1 g1 => (oct_calls b (o + 34) 32 32 (Nat.le_refl _) w1 g1).mono fun e w2 ⟨v, q1, q2, q3⟩ => ⟨v, q1, grow_mm q2, q3⟩) (fun w20a w20 v20 hg20 hm20 gg20 hq20 => ?_)
  have hm20 := hm20.grow (fun _ _ h => h)
  have hr20 := hg20.trans hm20
  have hk6 := hk6.grow hr20
  have hk10 := hk10.grow hr20
  have hk15 := hk15.grow hr20
  have hGF := gt_low.plain gg20
  obtain ⟨f20, rfl, hs20, hk20, hn20⟩ := hq20
  have hn20 := hn20.low (hG.trans hg20)
  have hG := hG.trans hr20
  refine lx_callW gt_low (M := fun _ => False) (fun k h => h.elim) rfl rfl ent69 rfl rfl hGF (Q := fun w1 w2 v => FdR w1 w2 b ⟨1, o + 66, 32⟩ v) (fun w1 h1 g1 => (oct_calls b (o + 66) 32 32 (Nat.le_refl _) w1 g1).mono fun e w2 ⟨v, q1, q2, q3⟩ => ⟨v, q1, grow_mm q2, q3⟩) (fun w25a w25 v25 hg25 hm25 gg25 hq25 => ?_)
  have hm25 := hm25.grow (fun _ _ h => h)
  have hr25 := hg25.trans hm25
  have hk6 := hk6.grow hr25
  have hk10 := hk10.grow hr25
  have hk15 := hk15.grow hr25
  have hk20 := hk20.grow hr25
  have hGF := gt_low.plain gg25
  obtain ⟨f25, rfl, hs25, hk25, hn25⟩ := hq25
  have hn25 := hn25.low (hG.trans hg25)
  have hG := hG.trans hr25
  refine lx_bslR 26 (([f6, f10, f15, f20, f25] : List Fd).map Fd.cs) hGF rfl rfl rfl rows3 (by decide) (by decide) Try.underlying71 Try.sizeOf101 zvF rfl rfl ?_
  intro b26
  refine lx_assign rfl rfl rfl ?_
  refine lx_nil ?_
  refine x_ret ?_
  repeat (first | refine kseq_ret ?_ | refine kblk_ret ?_)
  exact kret_tmp rfl rfl (fun w' hw' => ⟨_, rfl, hG.trans (hp_below hw'), [f6, f10, f15, f20, f25], _, _, rfl, Nat.le_refl _, by show [f6.s, f10.s, f15.s, f20.s, f25.s] = _; rw [hs6, hs10, hs15, hs20, hs25]; rfl, CellsAt.range (hp_row (n := 26) rfl w' hw'), List.forall_mem_cons.2 ⟨⟨hk6.grow (hp_below hw'), hn6⟩, List.forall_mem_cons.2 ⟨⟨hk10.grow (hp_below hw'), hn10⟩, List.forall_mem_cons.2 ⟨⟨hk15.grow (hp_below hw'), hn15⟩, List.forall_mem_cons.2 ⟨⟨hk20.grow (hp_below hw'), hn20⟩, List.forall_mem_cons.2 ⟨⟨hk25.grow (hp_below hw'), hn25⟩, fun _ h => by cases h⟩⟩⟩⟩⟩⟩)
theorem co_calls (b o : Nat) (n : Nat) (hn : n ≤ 1000) (w : World) (hw : Gt w) : Calls Try.prog 57 [pt b o, I (n : Int)].toArray w (fun e w' => ∃ v, e = .returned v ∧ Grow w w' ∧ LsR w w' b (coS o n) v) := by
  have hGF : BOk Gt (pl w) := gt_low.plain hw
  refine calls_of_X (G := Gt) Try.func57 rfl rfl (Hp (pl w) []) (hp_refl (pl w) trivial rides_true) (good_hp hGF) ?_
  refine xs_plain (E := EE [69, 70]) ?_
  refine lx_assign rfl rfl rfl ?_
  refine lx_nil ?_
  refine xs_draws (E := EE [69, 70]) [0, 1, 2, 3, 5, 6, 7, 8, 4, 9, 10, 11] mixed rfl (by kernel_rfl) (by kernel_rfl) (by kernel_rfl) ?_
  refine lx_move rfl rfl rfl ?_
  refine lx_nilc rfl rfl rfl ?_
  refine lx_fak (o) rfl Try.underlying31 rfl Try.sizeOf27 (by decide) rfl rfl rfl ?_
  refine lx_move rfl rfl rfl ?_
  refine lx_move rfl rfl rfl ?_
  refine lx_nilc rfl rfl rfl ?_
  refine lx_fak (o + 1) rfl Try.underlying31 rfl Try.sizeOf29 (by decide) rfl rfl rfl ?_
  refine lx_slarr0 rfl Try.underlying29 Try.sizeOf5 (by decide) rfl rfl ?_
  refine lx_callW gt_low (M := fun _ => False) (fun k h => h.elim) rfl rfl ent70 rfl rfl hGF (Q := fun w1 w2 v => FdR w1 w2 b ⟨3, o, n⟩ v) (fun w1 h1 g1 => (key_calls b o n hn w1 g1).mono fun e w2 ⟨v, q1, q2, q3⟩ => ⟨v, q1, grow_mm q2, q3⟩) (fun w9a w9 v9 hg9 hm9 gg9 hq9 => ?_)
  have hm9 := hm9.grow (fun _ _ h => h)
  have hr9 := hg9.trans hm9
  have hGF := gt_low.plain gg9
  obtain ⟨f9, rfl, hs9, hk9, hn9⟩ := hq9
  have hn9 := hn9.low hg9
  have hG := hr9
  refine lx_callW gt_low (M := fun _ => False) (fun k h => h.elim) rfl rfl ent69 rfl rfl hGF (Q := fun w1 w2 v => FdR w1 w2 b ⟨1, o + 1, 48⟩ v) (fun w1 h1 g1 => (oct_calls b (o + 1) 48 48 (Nat.le_refl _) w1 g1).mono fun e w2 ⟨v, q1, q2, q3⟩ => ⟨v, q1, grow_mm q2, q3⟩) (fun w14a w14 v14 hg14 hm14 gg14 hq14 => ?_)
  have hm14 := hm14.grow (fun _ _ h => h)
  have hr14 := hg14.trans hm14
  have hk9 := hk9.grow hr14
  have hGF := gt_low.plain gg14
  obtain ⟨f14, rfl, hs14, hk14, hn14⟩ := hq14
  have hn14 := hn14.low (hG.trans hg14)
  have hG := hG.trans hr14
  refine lx_bslR 15 (([f9, f14] : List Fd).map Fd.cs) hGF rfl rfl rfl rows3 (by decide) (by decide) Try.underlying71 Try.sizeOf101 zvF rfl rfl ?_
  intro b15
  refine lx_assign rfl rfl rfl ?_
  refine lx_nil ?_
  refine x_ret ?_
  repeat (first | refine kseq_ret ?_ | refine kblk_ret ?_)
  exact kret_tmp rfl rfl (fun w' hw' => ⟨_, rfl, hG.trans (hp_below hw'), [f9, f14], _, _, rfl, Nat.le_refl _, by show [f9.s, f14.s] = _; rw [hs9, hs14]; rfl, CellsAt.range (hp_row (n := 15) rfl w' hw'), List.forall_mem_cons.2 ⟨⟨hk9.grow (hp_below hw'), hn9⟩, List.forall_mem_cons.2 ⟨⟨hk14.grow (hp_below hw'), hn14⟩, fun _ h => by cases h⟩⟩⟩)
theorem ag_calls (b o : Nat) (n : Nat) (hn : n ≤ 1000) (w : World) (hw : Gt w) : Calls Try.prog 59 [pt b o, I (n : Int)].toArray w (fun e w' => ∃ v, e = .returned v ∧ Grow w w' ∧ LsR w w' b (agS o n) v) := by
  have hGF : BOk Gt (pl w) := gt_low.plain hw
  refine calls_of_X (G := Gt) Try.func59 rfl rfl (Hp (pl w) []) (hp_refl (pl w) trivial rides_true) (good_hp hGF) ?_
  refine xs_plain (E := EE [69, 71]) ?_
  refine lx_assign rfl rfl rfl ?_
  refine lx_nil ?_
  refine xs_draws (E := EE [69, 71]) [0, 1, 2, 3, 5, 6, 7, 8, 4, 9, 10, 11] mixed rfl (by kernel_rfl) (by kernel_rfl) (by kernel_rfl) ?_
  refine lx_move rfl rfl rfl ?_
  refine lx_nilc rfl rfl rfl ?_
  refine lx_fak (o) rfl Try.underlying38 rfl Try.sizeOf34 (by decide) rfl rfl rfl ?_
  refine lx_move rfl rfl rfl ?_
  refine lx_move rfl rfl rfl ?_
  refine lx_nilc rfl rfl rfl ?_
  refine lx_fak (o + 1) rfl Try.underlying38 rfl Try.sizeOf36 (by decide) rfl rfl rfl ?_
  refine lx_slarr0 rfl Try.underlying36 Try.sizeOf5 (by decide) rfl rfl ?_
  refine lx_callW gt_low (M := fun _ => False) (fun k h => h.elim) rfl rfl ent71 rfl rfl hGF (Q := fun w1 w2 v => FdR w1 w2 b ⟨2, o, n⟩ v) (fun w1 h1 g1 => (bit_calls b o n hn w1 g1).mono fun e w2 ⟨v, q1, q2, q3⟩ => ⟨v, q1, grow_mm q2, q3⟩) (fun w9a w9 v9 hg9 hm9 gg9 hq9 => ?_)
  have hm9 := hm9.grow (fun _ _ h => h)
  have hr9 := hg9.trans hm9
  have hGF := gt_low.plain gg9
  obtain ⟨f9, rfl, hs9, hk9, hn9⟩ := hq9
  have hn9 := hn9.low hg9
  have hG := hr9
  refine lx_callW gt_low (M := fun _ => False) (fun k h => h.elim) rfl rfl ent69 rfl rfl hGF (Q := fun w1 w2 v => FdR w1 w2 b ⟨1, o + 1, 96⟩ v) (fun w1 h1 g1 => (oct_calls b (o + 1) 96 96 (Nat.le_refl _) w1 g1).mono fun e w2 ⟨v, q1, q2, q3⟩ => ⟨v, q1, grow_mm q2, q3⟩) (fun w14a w14 v14 hg14 hm14 gg14 hq14 => ?_)
  have hm14 := hm14.grow (fun _ _ h => h)
  have hr14 := hg14.trans hm14
  have hk9 := hk9.grow hr14
  have hGF := gt_low.plain gg14
  obtain ⟨f14, rfl, hs14, hk14, hn14⟩ := hq14
  have hn14 := hn14.low (hG.trans hg14)
  have hG := hG.trans hr14
  refine lx_bslR 15 (([f9, f14] : List Fd).map Fd.cs) hGF rfl rfl rfl rows3 (by decide) (by decide) Try.underlying71 Try.sizeOf101 zvF rfl rfl ?_
  intro b15
  refine lx_assign rfl rfl rfl ?_
  refine lx_nil ?_
  refine x_ret ?_
  repeat (first | refine kseq_ret ?_ | refine kblk_ret ?_)
  exact kret_tmp rfl rfl (fun w' hw' => ⟨_, rfl, hG.trans (hp_below hw'), [f9, f14], _, _, rfl, Nat.le_refl _, by show [f9.s, f14.s] = _; rw [hs9, hs14]; rfl, CellsAt.range (hp_row (n := 15) rfl w' hw'), List.forall_mem_cons.2 ⟨⟨hk9.grow (hp_below hw'), hn9⟩, List.forall_mem_cons.2 ⟨⟨hk14.grow (hp_below hw'), hn14⟩, fun _ h => by cases h⟩⟩⟩)
end Go.Proofs.Ytlaanjcnfindnaa
