/-
  The program's lists of fields: branches; lists put together.
-/
import Derived.Test.YtlaanjcnfindnaaUE
namespace Go.Proofs.Ytlaanjcnfindnaa
open Go.RowKit
set_option maxRecDepth 100000
set_option maxHeartbeats 1000000

theorem brS_s (o i : Nat) : brS o (i + 1) = brS o i ++ [⟨1, o + 32 * i, 32⟩] := by simp [brS, List.range_succ]
theorem flm_snoc (L : List Fd) (f : Fd) : (L ++ [f]).flatMap Fd.cs = L.flatMap Fd.cs ++ f.cs := by simp [List.flatMap_append]
/-- A branch's fields: how far. -/
structure BrS (w w1 : World) (b o m b7 : Nat) (i : Nat) (W : World) (L : List Fd) : Prop where
  g : Gt W
  gr : Grow w W
  d : ∃ d, OwnB W b7 d 101 ∧ d.length = m * 3 ∧ d.take (i * 3) = L.flatMap Fd.cs
  l : L.length = i
  s : L.map Fd.s = brS o i
  k : ∀ f ∈ L, f.Ok b W ∧ f.Nw w1
  z : w1.heap.size ≤ W.heap.size
theorem br_calls (b o m c : Nat) (hm : m ≤ 1000) (w : World) (hw : Gt w) : Calls Try.prog 58 [.slice (some ⟨b, o, none⟩) m c].toArray w (fun e w' => ∃ v, e = .returned v ∧ Grow w w' ∧ LsR w w' b (brS o m) v) := by
  have hGF : BOk Gt (pl w) := gt_low.plain hw
  refine calls_of_X (G := Gt) Try.func58 rfl rfl (Hp (pl w) []) (hp_refl (pl w) trivial rides_true) (good_hp hGF) ?_
  refine xs_plain (E := EE [69]) ?_
  refine lx_assign rfl rfl rfl ?_
  refine lx_nil ?_
  refine xs_plain (E := EE [69]) ?_
  refine lx_move rfl rfl rfl ?_
  refine lx_len rfl (fun _ => len_slice Try.underlying110 _ _ _ _) rfl rfl ?_
  refine lx_mkslC (l := m) (m := m) (c := _) 7 hGF rfl rfl (Nat.le_refl _) Try.underlying71 tiF ⟨by omega, by omega, by omega⟩ rfl rfl rfl ?_
  intro b7
  refine lx_assign rfl rfl rfl ?_
  refine lx_nil ?_
  refine x_seq ?_
  refine xs_plain (E := EE [69]) ?_
  refine lx_move rfl rfl rfl ?_
  refine lx_len rfl (fun _ => len_slice Try.underlying110 _ _ _ _) rfl rfl ?_
  refine lx_move rfl rfl rfl ?_
  refine lx_nil ?_
  refine x_block ?_
  refine x_now0 gt_low (fun w3 hC g3 => ?_)
  have h7w : w.heap.size ≤ b7 := (hC.own 7 _ _ _ rfl).2.elim id False.elim
  have h73 : b7 < w3.heap.size := (hC.own 7 _ _ _ rfl).1.lt
  have hI : BrS w w3 b o m b7 0 w3 [] := ⟨g3, hp_below hC, ⟨_, (hC.own 7 _ _ _ rfl).1, by simp [madeCells], by rw [Nat.zero_mul]; rfl⟩, rfl, rfl, fun _ h => (by cases h), Nat.le_refl _⟩
  have hw3 := hp_below hC
  clear hC
  refine x_forW gt_low (ι := { x : Nat × World × List Fd // x.1 ≤ m ∧ BrS w w3 b o m b7 x.1 x.2.1 x.2.2 }) (fun x => [(0, .slice (some ⟨b, o, none⟩) m c), (3, .slice (some ⟨b7, 0, none⟩) m m), (9, I (m : Int)), (10, I (x.1.1 : Int))]) (fun x => x.1.2.1) (fun x => m - x.1.1) ⟨(0, w3, []), Nat.zero_le _, hI⟩ (fun x => x.2.2.g) rfl ⟨rfl, rfl, rfl, rfl, trivial⟩ ?_
  clear hI
  rintro ⟨⟨i, W, L⟩, hi, hI⟩
  dsimp only at hi hI ⊢
  have hGF : BOk Gt (pl W) := gt_low.plain hI.g
  obtain ⟨d, hd, hdl, hdt⟩ := hI.d
  refine xs_plain (E := EE [69]) ?_
  refine lx_bin rfl rfl (fun _ => rfl) (fun _ => bin_lss_i _ _ _) rfl rfl ?_
  refine lx_nil ?_
  refine x_seq ?_
  refine x_if rfl (fun hc => ?_) (fun hc => ?_)
  · have hlt : i < m := by simp at hc; omega
    clear hc
    refine x_skip ?_
    refine x_seq ?_
    refine x_block ?_
    refine xs_plain (E := EE [69]) ?_
    refine lx_move rfl rfl rfl ?_
    refine lx_assign rfl rfl rfl ?_
    refine lx_nil ?_
    refine x_plain (E := EE [69]) ?_
    refine lx_move rfl rfl rfl ?_
    refine lx_move rfl rfl rfl ?_
    refine lx_move rfl rfl rfl ?_
    refine lx_move rfl rfl rfl ?_
    refine lx_is rfl rfl Try.underlying110 Try.sizeOf24 ⟨by omega, by omega⟩ rfl rfl ?_
    rw [show o + ((i : Nat) : Int).toNat * 32 = o + 32 * i from by omega]
    refine lx_slarr0 rfl Try.underlying24 Try.sizeOf5 (by decide) rfl rfl ?_
    refine lx_callW gt_low (M := fun _ => False) (fun k h => h.elim) rfl rfl ent69 rfl rfl hGF (Q := fun w1 w2 v => FdR w1 w2 b ⟨1, o + 32 * i, 32⟩ v) (fun w1 h1 g1 => (oct_calls b (o + 32 * i) 32 32 (Nat.le_refl _) w1 g1).mono fun e w2 ⟨v, q1, q2, q3⟩ => ⟨v, q1, grow_mm q2, q3⟩) (fun w4 w2 v hg1 hm1 g2 hq => ?_)
    have hm1 := hm1.grow (fun _ _ h => h)
    obtain ⟨f, rfl, hs1, hk1, hn1⟩ := hq
    have hGF : BOk Gt (pl w2) := gt_low.plain g2
    have hr1 := hg1.trans hm1
    refine lx_is rfl rfl Try.underlying71 Try.sizeOf101 ⟨by omega, by omega⟩ rfl rfl ?_
    rw [show 0 + ((i : Nat) : Int).toNat * 3 = i * 3 from by omega]
    refine lx_stW (vs := f.cs) gt_low (fun w' h => hGF.g _ _ _ h) (fun w' h => (hd.grow hr1).grow (hp_below h)) (Nat.zero_le _) rfl rfl Try.sizeOf101 rfl f.all (by rw [hdl, f.len]; omega) rfl (fun w5 w6 hC6 g6 hm6 ho6 => ?_)
    refine lx_nil ?_
    refine x_plain (E := EE [69]) ?_
    refine lx_bin (v := I (((i + 1 : Nat) : Int))) rfl rfl (fun _ => rfl) (fun _ => (bin_add_i _ _ _ (by unfold inI; omega)).trans (by rfl)) rfl rfl ?_
    refine lx_move rfl rfl rfl ?_
    refine lx_nil ?_
    repeat (refine kblk_n ?_)
    refine kseq_n ?_
    have hN : ∀ f : Fd, f.Nw w3 → ¬ f.q = b7 ∧ ¬ f.r = b7 := fun f h => ⟨by have := h.1; omega, by have := h.2; omega⟩
    have hnf : f.Nw w3 := ⟨Nat.le_trans (Nat.le_trans hI.z hg1.size) hn1.1, Nat.le_trans (Nat.le_trans hI.z hg1.size) hn1.2⟩
    refine ⟨rfl, ⟨(i + 1, w6, L ++ [f]), hlt, g6, hm6.grow0 (((hI.gr.trans hr1)).trans (hp_below hC6)) (fun k hk => hk ▸ h7w), ⟨_, ho6, by rw [lay_length]; exact hdl, ?_⟩, by rw [List.length_append, hI.l]; rfl, by rw [List.map_append, hI.s, brS_s, ← hs1]; rfl, fun x hx => ?_, by show w3.heap.size ≤ w6.heap.size; have := hI.z; have := hr1.size; have := (hp_below hC6).size; have := hm6.size; omega⟩, by show m - (i + 1) < m - i; omega, rfl, ⟨rfl, rfl, rfl, rfl, trivial⟩⟩
    · have h4 := take_layV (L.flatMap Fd.cs) f.cs d (by rw [flm_len, hI.l, hdl, f.len]; omega) (by rw [flm_len, hI.l]; exact hdt)
      rw [flm_len, hI.l, f.len, show i * 3 + 3 = (i + 1) * 3 from by omega] at h4
      rw [h4, flm_snoc]
    · rcases List.mem_append.1 hx with hx | hx
      · obtain ⟨h1, h2⟩ := hI.k x hx
        exact ⟨((h1.grow hr1).grow (hp_below hC6)).mm hm6 (hN x h2).1 (fun _ => (hN x h2).2), h2⟩
      · obtain rfl := List.mem_singleton.1 hx
        exact ⟨(hk1.grow (hp_below hC6)).mm hm6 (hN _ hnf).1 (fun _ => (hN _ hnf).2), hnf⟩
  · obtain rfl : m = i := by simp at hc; omega
    clear hc
    refine x_exit ?_
    refine xs_plain (E := EE [69]) ?_
    refine lx_move rfl rfl rfl ?_
    refine lx_assign rfl rfl rfl ?_
    refine lx_nil ?_
    refine x_ret ?_
    repeat (first | refine kseq_ret ?_ | refine kblk_ret ?_)
    exact kret_tmp rfl rfl (fun w' hw' => ⟨_, rfl, hI.gr.trans (hp_below hw'), L, _, _, by rw [hI.l], by rw [hI.l]; exact Nat.le_refl _, hI.s, by rw [← hdt]; exact (CellsAt.range ((hd.grow (hp_below hw')).range)).take _, fun f hf => ⟨(hI.k f hf).1.grow (hp_below hw'), (hI.k f hf).2.low hw3⟩⟩)
theorem zF_one (n : Nat) : ∀ u ∈ (Builtin.zeroCells (Value.agg [I 0, .nilFunc, .nilFunc].toArray).cells n).toList, u.oneCell' = true := fun u hu => by
  have hu : u ∈ Builtin.zeroCells (Value.agg [I 0, .nilFunc, .nilFunc].toArray).cells n := Array.mem_toList_iff.1 hu
  unfold Builtin.zeroCells at hu
  obtain ⟨i, _, rfl⟩ := Array.mem_map.1 hu
  show ((#[I 0, Value.nilFunc, Value.nilFunc] : Array Value)[i % 3]!).oneCell' = true
  have : i % 3 = 0 ∨ i % 3 = 1 ∨ i % 3 = 2 := by omega
  rcases this with h | h | h <;> rw [h] <;> rfl
theorem SlW.le {e : TypeId} {s : Nat} {w : World} {a : Option Addr} {cap nx : Nat} {xs : List Value} (h : SlW e s w a cap nx xs) : nx ≤ cap := by
  rcases h with ⟨_, _, rfl, rfl⟩ | ⟨_, _, _, _, _, h, _⟩
  · exact Nat.le_refl _
  · exact h
theorem SlW.zero {e : TypeId} {s : Nat} {w : World} {a : Option Addr} {cap nx : Nat} {xs : List Value} (h : SlW e s w a cap nx xs) : SlW e s w a cap 0 [] := by
  rcases h with ⟨h1, _, _, h2⟩ | ⟨b, c, h1, h2, h3, _⟩
  · exact .inl ⟨h1, rfl, rfl, h2⟩
  · exact .inr ⟨b, c, h1, h2, h3, Nat.zero_le _, by rw [Nat.zero_mul]; rfl, rfl⟩
section
variable {P : Program} {G : Cls} {ro : Option Nat} {ops : Array Oper} {N : Nat} {ds : List Deferred} {fs : List Nat} {Z : Fr → Cls → Prop} {F : Fr} {C : Cls} {rest : List Oper} {d : Nat} {ty : TypeId} {pos : String} {af : Array Edge} {gd : Option (Nat × Bool)}
theorem lx_capS {x : Operand} {t e : TypeId} {a : Option Addr} {m n : Nat} (hx : evF F x = some (.slice a m n)) (hu : P.underlying t = some (.slice e)) (hw : wantF ops F ⟨some d, .call { callee := .builtin .cap, args := #[x], argTypes := #[t] }, ty, pos, af, gd⟩ = some true) (hd : Nat.blt d N = true)
    (h : Lx P G ro ops N ds (EE fs) Z rest ((d, I (n : Int)) :: F) C) : Lx P G ro ops N ds (EE fs) Z (⟨some d, .call { callee := .builtin .cap, args := #[x], argTypes := #[t] }, ty, pos, af, gd⟩ :: rest) F C :=
  lx_val (v := I (n : Int)) rfl hw hd (fun _ h => by cases h) (fun a w ha _ => by
    simp only [execOp, resolve, invoke, builtin, Sem.run_bind, Sem.run_pure, Result.andThen_ok, List.map_toArray, List.map_cons, List.map_nil, ha.ev hx]
    simp [Builtin.cap_, run_underlying hu, goInt]) h
end
theorem gro_calls (n : Nat) (hn : 0 < n) (hn2 : n ≤ 1000) (w : World) (hw : Gt w) : Calls Try.prog 68 [.slice none 0 0, I (n : Int)].toArray w (fun e w' => ∃ a c, e = .returned (.slice a 0 c) ∧ Grow w w' ∧ SlW 101 3 w' a c 0 [] ∧ New w a) := by
  have hGF : BOk Gt (pl w) := gt_low.plain hw
  refine calls_of_X (G := Gt) Try.func68 rfl rfl (Hp (pl w) []) (hp_refl (pl w) trivial rides_true) (good_hp hGF) ?_
  refine xs_plain (E := EE []) ?_
  refine lx_assign rfl rfl rfl ?_
  refine lx_nil ?_
  refine x_seq ?_
  refine xs_plain (E := EE []) ?_
  refine lx_move rfl rfl rfl ?_
  refine lx_binB false rfl rfl (fun _ => rfl) (fun _ => bin_lss_i _ _ _) (by simp) rfl rfl ?_
  refine lx_nil ?_
  refine x_false rfl ?_
  refine x_skip ?_
  refine x_seq ?_
  refine xs_plain (E := EE []) ?_
  refine lx_move rfl rfl rfl ?_
  refine lx_move rfl rfl rfl ?_
  refine lx_capS (n := 0) rfl Try.underlying71 rfl rfl ?_
  refine lx_move rfl rfl rfl ?_
  refine lx_len rfl (fun _ => len_slice Try.underlying71 _ _ _ _) rfl rfl ?_
  refine lx_bin (v := I (0)) rfl rfl (fun _ => rfl) (fun _ => bin_sub_i _ _ _ (by unfold inI; omega)) rfl rfl ?_
  refine lx_bin (v := I ((n : Int))) rfl rfl (fun _ => rfl) (fun _ => (bin_sub_i _ _ _ (by unfold inI; omega)).trans (by congr 2)) rfl rfl ?_
  refine lx_assign rfl rfl rfl ?_
  refine lx_nil ?_
  refine xs_plain (E := EE []) ?_
  refine lx_move rfl rfl rfl ?_
  refine lx_binB true rfl rfl (fun _ => rfl) (fun _ => bin_gtr_i _ _ _) (by simp; omega) rfl rfl ?_
  refine lx_nil ?_
  refine x_true rfl ?_
  refine x_plain (E := EE []) ?_
  refine lx_move rfl rfl rfl ?_
  refine lx_move rfl rfl rfl ?_
  refine lx_capS (n := 0) rfl Try.underlying71 rfl rfl ?_
  refine lx_slsl (l := 0) (h' := 0) rfl Try.underlying71 Try.sizeOf101 rfl rfl ⟨Nat.zero_le _, Nat.zero_le _⟩ rfl rfl ?_
  rw [cutS, Nat.sub_zero]
  refine lx_move rfl rfl rfl ?_
  refine lx_appX (xs := []) (ys := (Builtin.zeroCells (Value.agg [I 0, .nilFunc, .nilFunc].toArray).cells n).toList) (nx := 0) (ny := n) gt_low (fun w' h => hGF.g _ _ _ h) rfl rfl tiF rfl (fun w' h => .inl ⟨rfl, rfl, rfl, rfl⟩) (fun k _ => Nat.zero_le k) (fun w' h i hi hz hs hb => ASrc.zeros (n := n) (w := w') Try.underlying71 Try.underlying3 hi hz (by rw [hs]; rfl) (by rw [hs]; decide) (zF_one n) (by omega) (by rw [hb]; omega)) (by omega) (by omega) rfl rfl (fun w1 w2 a1 c1 hC g2 hm hs9 ho => ?_)
  have hgw := (hp_below hC).trans (hm.grow (fun k _ hk => by obtain ⟨_, e, _⟩ := hk; cases e))
  have hcn := hs9.le
  have hnw : New w a1 := fun ad e => (ho ad.block ⟨ad, e, rfl⟩).elim (fun ⟨_, e2, _⟩ => by cases e2) (fun h => Nat.le_trans (hp_below hC).size h)
  have hs8 := hs9.zero
  clear hs9 hm ho hC
  have hGF : BOk Gt (pl w2) := gt_low.plain g2
  refine lx_move rfl rfl rfl ?_
  refine lx_len rfl (fun _ => len_slice Try.underlying71 _ _ _ _) rfl rfl ?_
  refine lx_slsl (l := 0) (h' := 0) rfl Try.underlying71 Try.sizeOf101 rfl rfl ⟨Nat.zero_le _, Nat.zero_le _⟩ rfl rfl ?_
  rw [cutS, Nat.sub_zero, Nat.sub_zero]
  refine lx_assign rfl rfl rfl ?_
  refine lx_nil ?_
  refine xs_plain (E := EE []) ?_
  refine lx_move rfl rfl rfl ?_
  refine lx_assign rfl rfl rfl ?_
  refine lx_nil ?_
  refine x_ret ?_
  repeat (first | refine kseq_ret ?_ | refine kblk_ret ?_)
  exact kret_tmp rfl rfl (fun w' hw' => ⟨a1, c1, rfl, hgw.trans (hp_below hw'), hs8.grow (hp_below hw'), hnw⟩)
end Go.Proofs.Ytlaanjcnfindnaa
