/-
  The law of writing.
-/
import Derived.Test.YtjifjpcgdkepkaaTI
namespace Go.Proofs.Ytjifjpcgdkepkaa
open Go.RowKit
set_option maxRecDepth 100000
set_option maxHeartbeats 1000000

/-- A writer none of whose pieces lie where T says. -/
def WrX (T : Nat → Prop) (w : World) (b : Nat) (xs : List (BitVec 8)) : Prop := ∃ S, WrAt S w b xs ∧ (∀ k, S k → k < w.heap.size) ∧ ∀ k, T k → ¬ S k
theorem WrX.lt {T : Nat → Prop} {w : World} {b : Nat} {xs : List (BitVec 8)} (h : WrX T w b xs) : b < w.heap.size := by
  obtain ⟨S, h1, _⟩ := h
  exact h1.lt
theorem WrX.mm {T M : Nat → Prop} {w w' : World} {b : Nat} {xs : List (BitVec 8)} (h : WrX T w b xs) (hm : MM M w w') (hb : ¬ M b) (hM : ∀ k, M k → T k) : WrX T w' b xs := by
  obtain ⟨S, h1, h2, h3⟩ := h
  exact ⟨S, h1.mm hm hb (fun k hk => ⟨fun h => h3 k (hM k h) hk, hk⟩) h1.out, fun k hk => Nat.lt_of_lt_of_le (h2 k hk) hm.size, h3⟩
theorem WrX.grow {T : Nat → Prop} {w w' : World} {b : Nat} {xs : List (BitVec 8)} (h : WrX T w b xs) (hg : Grow w w') : WrX T w' b xs := h.mm (M := fun _ => False) (grow_mm hg) id (fun _ h => h.elim)
theorem WrX.sub {T T' : Nat → Prop} {w : World} {b : Nat} {xs : List (BitVec 8)} (h : WrX T w b xs) (hT : ∀ k, T' k → T k ∨ w.heap.size ≤ k) : WrX T' w b xs := by
  obtain ⟨S, h1, h2, h3⟩ := h
  exact ⟨S, h1, h2, fun k hk hs => (hT k hk).elim (fun h => h3 k h hs) (fun h => by have := h2 k hs; omega)⟩
theorem WrX.app {w w' : World} {a a1 : Option Addr} {b : Nat} {xs : List (BitVec 8)} (h : WrX (Of a) w b xs) (hm : MM (Of a) w w') (hb : ¬ Of a b) (ho : ∀ k, Of a1 k → Of a k ∨ w.heap.size ≤ k) : WrX (Of a1) w' b xs := by
  obtain ⟨S, h1, h2, h3⟩ := h
  exact ⟨S, h1.mm hm hb (fun k hk => ⟨fun h => h3 k h hk, hk⟩) h1.out, fun k hk => Nat.lt_of_lt_of_le (h2 k hk) hm.size, fun k hk hs => (ho k hk).elim (fun h => h3 k h hs) (fun h => by have := h2 k hs; omega)⟩
theorem wuX (T : Nat → Prop) (b : Nat) (xs : List (BitVec 8)) (n : BitVec 64) (hl : xs.length ≤ 1000000) (w : World) (hw : Gt w) (hbl : 0 ≤ b) (hr : WrX T w b xs) (hT : ∀ k, T k → k < w.heap.size)  : Calls Try.prog 10 [.pointer (some ⟨b, 0, none⟩), U64 n].toArray w (fun r w' => ∃ v, r = .returned v ∧ MM (fun k => k = b) w w' ∧ WrX T w' b (xs ++ le8 n 8)) := by
  obtain ⟨S, h1, h2, h3⟩ := hr
  exact (wu_calls S b xs n hl w hw hbl h1).mono fun r w' ⟨q1, q2, q3⟩ => ⟨_, q1, q2, _, q3, fun k hk => hk.elim (fun h => Nat.lt_of_lt_of_le (h2 k h) q2.size) (fun h => h.2), fun k hk hs => hs.elim (h3 k hk) (fun h => by have := hT k hk; omega)⟩
theorem wtX (T : Nat → Prop) (b : Nat) (xs : List (BitVec 8)) (l : List Bool) (a : Option Addr) (cap : Nat) (hll : l.length ≤ 1000000) (hl : xs.length ≤ 1000000) (w : World) (hw : Gt w) (hbl : 0 ≤ b) (hr : WrX T w b xs) (hT : ∀ k, T k → k < w.heap.size) (hb : CellsAt w a (l.map .bool)) : Calls Try.prog 15 [.pointer (some ⟨b, 0, none⟩), .slice a l.length cap].toArray w (fun r w' => ∃ v, r = .returned v ∧ MM (fun k => k = b) w w' ∧ WrX T w' b (xs ++ pb l l.length)) := by
  obtain ⟨S, h1, h2, h3⟩ := hr
  exact (wt_calls S b xs l a cap hll hl w hw hbl h1 hb).mono fun r w' ⟨q1, q2, q3⟩ => ⟨_, q1, q2, _, q3, fun k hk => hk.elim (fun h => Nat.lt_of_lt_of_le (h2 k h) q2.size) (fun h => h.2), fun k hk hs => hs.elim (h3 k hk) (fun h => by have := hT k hk; omega)⟩
theorem wbX (T : Nat → Prop) (b : Nat) (xs : List (BitVec 8)) (ys : List (BitVec 8)) (a : Option Addr) (cap : Nat) (hll : ys.length ≤ 1000000) (hl : xs.length ≤ 1000000) (w : World) (hw : Gt w) (hbl : 0 ≤ b) (hr : WrX T w b xs) (hT : ∀ k, T k → k < w.heap.size) (hb : BytesAt w a ys) : Calls Try.prog 13 [.pointer (some ⟨b, 0, none⟩), .slice a ys.length cap].toArray w (fun r w' => ∃ v, r = .returned v ∧ MM (fun k => k = b) w w' ∧ WrX T w' b (xs ++ ys)) := by
  obtain ⟨S, h1, h2, h3⟩ := hr
  exact (wb_calls S b xs ys a cap hl hll w hw hbl h1 hb).mono fun r w' ⟨q1, q2, q3⟩ => ⟨_, q1, q2, _, q3, fun k hk => hk.elim (fun h => Nat.lt_of_lt_of_le (h2 k h) q2.size) (fun h => h.2), fun k hk hs => hs.elim (h3 k hk) (fun h => by have := hT k hk; omega)⟩
theorem walX (T : Nat → Prop) (b : Nat) (xs : List (BitVec 8)) (hl : xs.length ≤ 1000000) (w : World) (hw : Gt w) (hr : WrX T w b xs) : Calls Try.prog 17 [.pointer (some ⟨b, 0, none⟩)].toArray w (fun e w' => ∃ v, e = .returned v ∧ MM (fun _ => False) w w' ∧ Fr8 w w' v xs) := by
  obtain ⟨S, h1, _⟩ := hr
  exact (wal_calls S b xs hl w hw h1).mono fun r w' ⟨v, h3, h4, h5⟩ => ⟨v, h3, grow_mm h4, h5⟩
theorem bytes_lt {w : World} {a : Option Addr} {ys : List (BitVec 8)} (h : BytesAt w a ys) (hy : ys ≠ []) : ∀ ad, a = some ad → ad.block < w.heap.size := fun ad e => by
  obtain ⟨y, r, rfl⟩ : ∃ y r, ys = y :: r := by
    cases ys with
    | nil => exact absurd rfl hy
    | cons y r => exact ⟨y, r, rfl⟩
  obtain ⟨ad2, e2, hc⟩ := h 0 _ rfl
  rw [e] at e2
  cases e2
  have := block_lt_of_cell hc
  rwa [block_add] at this
theorem Of.lt {e : TypeId} {w : World} {a : Option Addr} {cap : Nat} {xs : List Value} (h : SlV e w a cap xs) : ∀ k, Of a k → k < w.heap.size := fun _ ⟨ad, e, hk⟩ => hk ▸ h.lt ad e
theorem Of.new {w : World} {a : Option Addr} (h : New w a) : ∀ k, Of a k → w.heap.size ≤ k := fun _ ⟨ad, e, hk⟩ => hk ▸ h ad e
/-- The writer holds what is wanted. -/
structure WI (w0 : World) (bw : Nat) (w : World) (xs : List (BitVec 8)) (aw : Option Addr) (cw : Nat) (m : Nat) : Prop where
  g : Gt w
  gr : Grow w0 w
  x : WrX (Of aw) w bw xs
  s : SlV 5 w aw cw (xs.map U8)
  n : ∀ k, Of aw k → w0.heap.size ≤ k ∧ k ≠ bw
  l : xs.length ≤ 8 * m
theorem nw_next {w0 w : World} {bw : Nat} {a a1 : Option Addr} (hn : ∀ k, Of a k → w0.heap.size ≤ k ∧ k ≠ bw) (hg : Grow w0 w) (hb : bw < w.heap.size) (ho : ∀ k, Of a1 k → Of a k ∨ w.heap.size ≤ k) : ∀ k, Of a1 k → w0.heap.size ≤ k ∧ k ≠ bw := fun k hk => (ho k hk).elim (hn k) (fun h => by have := hg.size; omega)
theorem writes_law (a : Option Addr) (cap : Nat) (ss : List Stp) (w : World) (hw : Gt w) (hst : StepsAt w a ss) : Calls Try.prog 3 [.slice a ss.length cap].toArray w (fun e w' => e = .returned (.bool true) ∧ Grow w w') := by
  have hGF : BOk Gt (pl w) := gt_low.plain hw
  refine calls_of_X (G := Gt) Try.func3 rfl rfl (Hp (pl w) []) (hp_refl (pl w) trivial rides_true) (good_hp hGF) ?_
  refine xs_plain (E := EE [9, 10, 11, 12, 13, 14, 15, 16, 17]) ?_
  refine lx_assign rfl rfl rfl ?_
  refine lx_nil ?_
  refine x_seq ?_
  refine xs_plain (E := EE [9, 10, 11, 12, 13, 14, 15, 16, 17]) ?_
  refine lx_callC rfl rfl ent8 (fun w1 _ hG => known17 w1 hG) rfl rfl ?_
  refine lx_un rfl (fun _ => un_not _) rfl rfl ?_
  refine lx_nil ?_
  refine x_false rfl ?_
  refine x_skip ?_
  refine x_seq ?_
  refine xs_plain (E := EE [9, 10, 11, 12, 13, 14, 15, 16, 17]) ?_
  refine lx_move rfl rfl rfl ?_
  refine lx_callW gt_low (M := fun _ => False) (fun k h => h.elim) rfl rfl ent9 rfl rfl hGF (Q := fun w1 w2 v => ∃ r, v = .bool r ∧ (r = true → ss.length ≤ 100 ∧ sm ss ss.length ≤ 5000)) (fun w1 h1 g1 => (light_calls ss a cap w1 g1 (hst.grow h1)).mono fun e w2 ⟨r, q1, q2, q3⟩ => ⟨_, q1, grow_mm q2, r, rfl, q3⟩) (fun w11a w11 v hg11 hm11 gg11 hq => ?_)
  have hGF := gt_low.plain gg11
  have hr11 := hg11.trans (hm11.grow (fun _ _ h => h))
  have hW : Grow w w11 := hr11
  obtain ⟨r, rfl, hlt0⟩ := hq
  rcases r with _ | _
  · skip
    refine lx_un rfl (fun _ => un_not _) rfl rfl ?_
    refine lx_nil ?_
    refine x_true rfl ?_
    refine xs_plain (E := EE [9, 10, 11, 12, 13, 14, 15, 16, 17]) ?_
    refine lx_assign rfl rfl rfl ?_
    refine lx_nil ?_
    refine x_ret ?_
    repeat (first | refine kseq_ret ?_ | refine kblk_ret ?_)
    exact kret_tmp rfl rfl (fun w' hw' => ⟨rfl, hW.trans (hp_below hw')⟩)
  · skip
    obtain ⟨hl1, hl2⟩ := hlt0 rfl
    refine lx_un rfl (fun _ => un_not _) rfl rfl ?_
    refine lx_nil ?_
    refine x_false rfl ?_
    refine x_skip ?_
    refine xs_plain (E := EE [9, 10, 11, 12, 13, 14, 15, 16, 17]) ?_
    refine lx_allocr 3 hGF zv27 rfl rfl ?_
    intro bw
    refine lx_nil ?_
    refine xs_plain (E := EE [9, 10, 11, 12, 13, 14, 15, 16, 17]) ?_
    refine lx_assign rfl rfl rfl ?_
    refine lx_nil ?_
    refine x_seq ?_
    refine xs_plain (E := EE [9, 10, 11, 12, 13, 14, 15, 16, 17]) ?_
    refine lx_assign rfl rfl rfl ?_
    refine lx_nil ?_
    refine x_block ?_
    refine x_now0 gt_low (fun w3 hC g3 => ?_)
    have hbw : w.heap.size ≤ bw := Nat.le_trans hW.size ((hC.own 3 _ _ _ rfl).2.elim id False.elim)
    have hI : WI w bw w3 [] none 0 0 := ⟨g3, hW.trans (hp_below hC), ⟨fun _ => False, ⟨[], none, (hC.own 3 _ _ _ rfl).1, rfl, rfl, id⟩, fun _ h => h.elim, fun _ _ h => h⟩, .inl ⟨rfl, rfl, rfl⟩, (fun k ⟨_, e, _⟩ => by cases e), by simp⟩
    clear hC
    refine x_forW gt_low (ι := { x : Nat × World × List (BitVec 8) × Option Addr × Nat // x.1 ≤ ss.length ∧ WI w bw x.2.1 x.2.2.1 x.2.2.2.1 x.2.2.2.2 (sm ss x.1) }) (fun x => [(0, .slice a ss.length cap), (3, .pointer (some ⟨bw, 0, none⟩)), (4, .slice x.1.2.2.2.1 x.1.2.2.1.length x.1.2.2.2.2), (5, I (x.1.1 : Int))]) (fun x => x.1.2.1) (fun x => ss.length - x.1.1) ⟨(0, w3, [], none, 0), Nat.zero_le _, hI⟩ (fun x => x.2.2.g) rfl ⟨rfl, rfl, rfl, rfl, trivial⟩ ?_
    clear hI
    rintro ⟨⟨k, wk, xs, aw, cw⟩, hk, hI⟩
    dsimp only at hk hI ⊢
    have hgt := hI.g
    have hGF : BOk Gt (pl wk) := gt_low.plain hI.g
    have hW := hI.gr
    have hX := hI.x
    have hs := hI.s
    have hn := hI.n
    have hl := hI.l
    refine x_seq ?_
    refine xs_plain (E := EE [9, 10, 11, 12, 13, 14, 15, 16, 17]) ?_
    refine lx_move rfl rfl rfl ?_
    refine lx_move rfl rfl rfl ?_
    refine lx_len rfl (fun _ => len_slice Try.underlying22 _ _ _ _) rfl rfl ?_
    rcases Nat.lt_or_ge k ss.length with hlt | hge
    · skip
      obtain ⟨s, hss⟩ : ∃ s, ss[k]? = some s := ⟨_, List.getElem?_eq_getElem hlt⟩
      obtain ⟨hok, ad, rfl, hat⟩ := hst k s hss
      have hnx : sm ss (k + 1) = sm ss k + 1 + s.bs.length + s.ls.length := by rw [sm, stw_s hss]; omega
      have hmo := sm_mono ss (i := k + 1) ss.length hlt
      have hl8 := le8_len s.n 8
      have hlp := pb_len s.ls s.ls.length
      unfold szB at hlp
      refine lx_binB true rfl rfl (fun _ => rfl) (fun _ => bin_lss_i _ _ _) (by simp; omega) rfl rfl ?_
      refine lx_nil ?_
      refine x_true rfl ?_
      refine x_skip ?_
      refine x_seq ?_
      refine x_block ?_
      refine x_seq ?_
      refine xs_plain (E := EE [9, 10, 11, 12, 13, 14, 15, 16, 17]) ?_
      refine lx_move rfl rfl rfl ?_
      refine lx_move rfl rfl rfl ?_
      refine lx_isAW k 5 rfl rfl Try.underlying22 Try.sizeOf32 rfl (by omega) rfl rfl ?_
      refine lx_faA rfl Try.underlying32 rfl Try.sizeOf3 (by decide) rfl rfl ?_
      refine lx_load rfl Try.isAgg3 (fun w' h => (hat.grow (hW.trans (hp_below h))).c 0 _ rfl) rfl rfl ?_
      refine lx_nil ?_
      refine x_block ?_
      refine xs_plain (E := EE [9, 10, 11, 12, 13, 14, 15, 16, 17]) ?_
      by_cases h0 : s.what = 0
      · skip
        have hlx : (xs ++ le8 s.n 8).length ≤ 8 * sm ss (k + 1) := by rw [hnx]; rw [List.length_append]; omega
        refine lx_binB true rfl rfl (fun _ => rfl) (fun _ => bin_eql_i _ _ _) (beq_iff_eq.2 h0) rfl rfl ?_
        refine lx_assign rfl rfl rfl ?_
        refine lx_nil ?_
        refine x_true rfl ?_
        refine xs_plain (E := EE [9, 10, 11, 12, 13, 14, 15, 16, 17]) ?_
        refine lx_move rfl rfl rfl ?_
        refine lx_move rfl rfl rfl ?_
        refine lx_isAW k 5 rfl rfl Try.underlying22 Try.sizeOf32 rfl (by omega) rfl rfl ?_
        refine lx_faA rfl Try.underlying32 rfl Try.sizeOf29 (by decide) rfl rfl ?_
        refine lx_load rfl Try.isAgg29 (fun w' h => (hat.grow (hW.trans (hp_below h))).c 2 _ rfl) rfl rfl ?_
        refine lx_callW gt_low (M := (fun k => k = bw)) (fun k h => Nat.zero_le _) rfl rfl ent10 rfl rfl hGF (Q := fun w1 w2 v => WrX (Of aw) w2 bw (xs ++ le8 s.n 8)) (fun w1 h1 g1 => wuX _ bw xs s.n (by omega) w1 g1 (Nat.zero_le _) (hX.grow h1) (fun k hk => Nat.lt_of_lt_of_le (Of.lt hs k hk) h1.size)) (fun w31a w31 v hg31 hm31 gg31 hq => ?_)
        have hGF := gt_low.plain gg31
        have hW : Grow w w31 := hm31.grow0 (hW.trans hg31) (fun k hk => hk ▸ hbw)
        have hs := (hs.grow hg31).mm hm31 (fun ad e h => (hn _ ⟨ad, e, rfl⟩).2 h)
        have hX := hq
        have hgt := gg31
        refine lx_nil ?_
        refine x_plain (E := EE [9, 10, 11, 12, 13, 14, 15, 16, 17]) ?_
        refine lx_move rfl rfl rfl ?_
        refine lx_move rfl rfl rfl ?_
        refine lx_move rfl rfl rfl ?_
        refine lx_isAW k 5 rfl rfl Try.underlying22 Try.sizeOf32 rfl (by omega) rfl rfl ?_
        refine lx_faA rfl Try.underlying32 rfl Try.sizeOf29 (by decide) rfl rfl ?_
        refine lx_load rfl Try.isAgg29 (fun w' h => (hat.grow (hW.trans (hp_below h))).c 2 _ rfl) rfl rfl ?_
        refine lx_callW gt_low (M := (Of aw)) (fun k h => Nat.zero_le _) rfl rfl ent11 rfl rfl hGF (Q := fun w1 w2 v => ∃ a9 c9, v = .slice a9 (xs ++ le8 s.n 8).length c9 ∧ Ap8 w1 aw w2 a9 c9 (xs ++ le8 s.n 8)) (fun w1 h1 g1 => (rui_calls s.n xs aw cw (by omega) w1 g1 (hs.grow h1) (fun k _ => Nat.zero_le _)).mono fun e w2 ⟨a1, c1, q1, q2⟩ => ⟨_, q1, q2.m, a1, c1, rfl, q2⟩) (fun w38a w38 v hg38 hm38 gg38 hq => ?_)
        have hGF := gt_low.plain gg38
        obtain ⟨a9, c9, rfl, hA⟩ := hq
        have hn9 := nw_next hn (hW.trans hg38) (hX.grow hg38).lt hA.o
        have hX := (hX.grow hg38).app hm38 (fun h => (hn _ h).2 rfl) hA.o
        have hW : Grow w w38 := hm38.grow0 (hW.trans hg38) (fun k hk => (hn k hk).1)
        have hs := hA.s
        have hn := hn9
        have hgt := gg38
        refine lx_assign rfl rfl rfl ?_
        refine lx_nil ?_
        refine xs_plain (E := EE [9, 10, 11, 12, 13, 14, 15, 16, 17]) ?_
        refine lx_callW gt_low (M := fun _ => False) (fun k h => h.elim) rfl rfl ent17 rfl rfl hGF (Q := fun w1 w2 v => Fr8 w1 w2 v (xs ++ le8 s.n 8)) (fun w1 h1 g1 => walX _ bw (xs ++ le8 s.n 8) (by omega) w1 g1 (hX.grow h1)) (fun w74a w74 v hg74 hm74 gg74 hq => ?_)
        have hGF := gt_low.plain gg74
        have hr74 := hg74.trans (hm74.grow (fun _ _ h => h))
        obtain ⟨ag, cg, rfl, hsg, hng⟩ := hq
        have hdg : ∀ k, Of a9 k → ¬ Of ag k := fun k h1 h2 => by have h3 := Of.lt hs k h1; have h4 := Of.new hng k h2; have h5 := hg74.size; omega
        have hbg : ¬ Of ag bw := fun h2 => by have h3 := hX.lt; have h4 := Of.new hng _ h2; have h5 := hg74.size; omega
        have hwg : ∀ k, Of ag k → w.heap.size ≤ k := fun k h2 => Nat.le_trans (hW.trans hg74).size (Of.new hng k h2)
        have hX := ((hX.grow hg74).sub (T' := fun k => Of a9 k ∨ Of ag k) (fun k hk => hk.elim .inl (fun h => .inr (Of.new hng k h)))).grow (hm74.grow (fun _ _ h => h))
        have hs := hs.grow hr74
        have hW : Grow w w74 := hW.trans hr74
        have hgt := gg74
        refine lx_assign rfl rfl rfl ?_
        refine lx_nil ?_
        refine xs_plain (E := EE [9, 10, 11, 12, 13, 14, 15, 16, 17]) ?_
        refine lx_move rfl rfl rfl ?_
        refine lx_move rfl rfl rfl ?_
        refine lx_callC rfl rfl ent18 (fun w1 hC hG => byt_calls (xs ++ le8 s.n 8) ag _ cg a9 _ c9 rfl rfl w1 hG (hsg.grow (hp_below hC)).bytes (hs.grow (hp_below hC)).bytes) rfl rfl ?_
        refine lx_un rfl (fun _ => un_not _) rfl rfl ?_
        refine lx_nil ?_
        refine x_false rfl ?_
        refine x_plain (E := EE [9, 10, 11, 12, 13, 14, 15, 16, 17]) ?_
        refine lx_move rfl rfl rfl ?_
        refine lx_callW gt_low (M := (Of ag)) (fun k h => Nat.zero_le _) rfl rfl ent14 rfl rfl hGF (Q := fun w1 w2 v => True) (fun w1 h1 g1 => (spo_calls ag cg (xs ++ le8 s.n 8) (by omega) w1 g1 (hsg.grow h1) (fun k _ => Nat.zero_le _)).mono fun e w2 ⟨q1, q2⟩ => ⟨_, q1, q2, trivial⟩) (fun w80a w80 v hg80 hm80 gg80 hq => ?_)
        have hGF := gt_low.plain gg80
        have hX := ((hX.grow hg80).mm hm80 hbg (fun k hk => .inr hk)).sub (T' := Of a9) (fun k hk => .inl (.inl hk))
        have hs := (hs.grow hg80).mm hm80 (fun ad e h => hdg _ ⟨ad, e, rfl⟩ h)
        have hW : Grow w w80 := hm80.grow0 (hW.trans hg80) hwg
        have hgt := gg80
        refine lx_nil ?_
        refine x_plain (E := EE [9, 10, 11, 12, 13, 14, 15, 16, 17]) ?_
        refine lx_move rfl rfl rfl ?_
        refine lx_bin (v := I (((k + 1 : Nat) : Int))) rfl rfl (fun _ => rfl) (fun _ => (bin_add_i _ _ _ (by unfold inI; omega)).trans (by rfl)) rfl rfl ?_
        refine lx_assign rfl rfl rfl ?_
        refine lx_nil ?_
        repeat (refine kblk_n ?_)
        refine kseq_n ?_
        exact ⟨rfl, ⟨(k + 1, _, xs ++ le8 s.n 8, a9, c9), hlt, ⟨hgt, hW, hX, hs, hn, hlx⟩⟩, by show ss.length - (k + 1) < ss.length - k; omega, rfl, ⟨rfl, rfl, rfl, rfl, trivial⟩⟩
      · skip
        refine lx_binB false rfl rfl (fun _ => rfl) (fun _ => bin_eql_i _ _ _) (beq_eq_false_iff_ne.2 h0) rfl rfl ?_
        refine lx_assign rfl rfl rfl ?_
        refine lx_nil ?_
        refine x_false rfl ?_
        refine xs_plain (E := EE [9, 10, 11, 12, 13, 14, 15, 16, 17]) ?_
        by_cases h1 : s.what = 1
        · skip
          have hlx : (xs ++ s.bs).length ≤ 8 * sm ss (k + 1) := by rw [hnx]; rw [List.length_append]; omega
          refine lx_binB true rfl rfl (fun _ => rfl) (fun _ => bin_eql_i _ _ _) (beq_iff_eq.2 h1) rfl rfl ?_
          refine lx_assign rfl rfl rfl ?_
          refine lx_nil ?_
          refine x_true rfl ?_
          refine xs_plain (E := EE [9, 10, 11, 12, 13, 14, 15, 16, 17]) ?_
          refine lx_move rfl rfl rfl ?_
          refine lx_move rfl rfl rfl ?_
          refine lx_isAW k 5 rfl rfl Try.underlying22 Try.sizeOf32 rfl (by omega) rfl rfl ?_
          refine lx_faA rfl Try.underlying32 rfl Try.sizeOf28 (by decide) rfl rfl ?_
          refine lx_load rfl Try.isAgg28 (fun w' h => (hat.grow (hW.trans (hp_below h))).c 3 _ rfl) rfl rfl ?_
          refine lx_callW gt_low (M := fun _ => False) (fun k h => h.elim) rfl rfl ent12 rfl rfl hGF (Q := fun w1 w2 v => Fr8 w1 w2 v s.bs) (fun w1 h1 g1 => (cpy_calls s.bs s.ba s.bc (by omega) w1 g1 (hat.b.grow (hW.trans h1))).mono fun e w2 ⟨v, h1, h2, h3⟩ => ⟨v, h1, grow_mm h2, h3⟩) (fun w46a w46 v hg46 hm46 gg46 hq => ?_)
          have hGF := gt_low.plain gg46
          have hr46 := hg46.trans (hm46.grow (fun _ _ h => h))
          obtain ⟨ai, ci, rfl, hsi, hni⟩ := hq
          have hdi : ∀ k, Of aw k → ¬ Of ai k := fun k h1 h2 => by have h3 := Of.lt hs k h1; have h4 := Of.new hni k h2; have h5 := hg46.size; omega
          have hbi : ¬ Of ai bw := fun h2 => by have h3 := hX.lt; have h4 := Of.new hni _ h2; have h5 := hg46.size; omega
          have hwi : ∀ k, Of ai k → w.heap.size ≤ k := fun k h2 => Nat.le_trans (hW.trans hg46).size (Of.new hni k h2)
          have hX := ((hX.grow hg46).sub (T' := fun k => Of aw k ∨ Of ai k) (fun k hk => hk.elim .inl (fun h => .inr (Of.new hni k h)))).grow (hm46.grow (fun _ _ h => h))
          have hs := hs.grow hr46
          have hW : Grow w w46 := hW.trans hr46
          have hgt := gg46
          refine lx_assign rfl rfl rfl ?_
          refine lx_nil ?_
          refine xs_plain (E := EE [9, 10, 11, 12, 13, 14, 15, 16, 17]) ?_
          refine lx_move rfl rfl rfl ?_
          refine lx_callW gt_low (M := (fun k => k = bw)) (fun k h => Nat.zero_le _) rfl rfl ent13 rfl rfl hGF (Q := fun w1 w2 v => WrX (fun k => Of aw k ∨ Of ai k) w2 bw (xs ++ s.bs)) (fun w1 h1 g1 => wbX _ bw xs s.bs ai ci (by omega) (by omega) w1 g1 (Nat.zero_le _) (hX.grow h1) (fun k hk => Nat.lt_of_lt_of_le (hk.elim (Of.lt hs k) (Of.lt hsi k)) h1.size) (hsi.grow h1).bytes) (fun w48a w48 v hg48 hm48 gg48 hq => ?_)
          have hGF := gt_low.plain gg48
          have hW : Grow w w48 := hm48.grow0 (hW.trans hg48) (fun k hk => hk ▸ hbw)
          have hs := (hs.grow hg48).mm hm48 (fun ad e h => (hn _ ⟨ad, e, rfl⟩).2 h)
          have hX := hq
          have hgt := gg48
          have hsi := (hsi.grow hg48).mm hm48 (fun ad e h => hbi ⟨ad, e, h.symm⟩)
          refine lx_nil ?_
          refine xs_plain (E := EE [9, 10, 11, 12, 13, 14, 15, 16, 17]) ?_
          refine lx_move rfl rfl rfl ?_
          refine lx_callW gt_low (M := (Of ai)) (fun k h => Nat.zero_le _) rfl rfl ent14 rfl rfl hGF (Q := fun w1 w2 v => True) (fun w1 h1 g1 => (spo_calls ai ci (s.bs) (by omega) w1 g1 (hsi.grow h1) (fun k _ => Nat.zero_le _)).mono fun e w2 ⟨q1, q2⟩ => ⟨_, q1, q2, trivial⟩) (fun w50a w50 v hg50 hm50 gg50 hq => ?_)
          have hGF := gt_low.plain gg50
          have hX := ((hX.grow hg50).mm hm50 hbi (fun k hk => .inr hk)).sub (T' := Of aw) (fun k hk => .inl (.inl hk))
          have hs := (hs.grow hg50).mm hm50 (fun ad e h => hdi _ ⟨ad, e, rfl⟩ h)
          have hW : Grow w w50 := hm50.grow0 (hW.trans hg50) hwi
          have hgt := gg50
          refine lx_nil ?_
          refine x_plain (E := EE [9, 10, 11, 12, 13, 14, 15, 16, 17]) ?_
          refine lx_move rfl rfl rfl ?_
          refine lx_move rfl rfl rfl ?_
          refine lx_move rfl rfl rfl ?_
          refine lx_isAW k 5 rfl rfl Try.underlying22 Try.sizeOf32 rfl (by omega) rfl rfl ?_
          refine lx_faA rfl Try.underlying32 rfl Try.sizeOf28 (by decide) rfl rfl ?_
          refine lx_load rfl Try.isAgg28 (fun w' h => (hat.grow (hW.trans (hp_below h))).c 3 _ rfl) rfl rfl ?_
          refine lx_app8 (xs := xs) (ys := s.bs) gt_low (fun w' h => hGF.g _ _ _ h) rfl rfl Try.underlying28 Try.underlying28 ti5 (fun w' h => hs.grow (hp_below h)) (fun k _ => Nat.zero_le _) (fun w' h => hat.b.grow (hW.trans (hp_below h))) (fun w' h hy ad e hof => by have h1 := bytes_lt hat.b hy ad e; have h2 := (hn _ hof).1; omega) (by omega) rfl rfl (fun w57a w57 a9 c9 hC g2 hm hs9 ho => ?_)
          have hn9 := nw_next hn (hW.trans (hp_below hC)) (hX.grow (hp_below hC)).lt ho
          have hX := (hX.grow (hp_below hC)).app hm (fun h => (hn _ h).2 rfl) ho
          have hW : Grow w w57 := hm.grow0 (hW.trans (hp_below hC)) (fun k hk => (hn k hk).1)
          have hs := hs9
          have hn := hn9
          have hgt := g2
          have hGF := gt_low.plain g2
          clear hC hm ho
          refine lx_assign rfl rfl rfl ?_
          refine lx_nil ?_
          refine xs_plain (E := EE [9, 10, 11, 12, 13, 14, 15, 16, 17]) ?_
          refine lx_callW gt_low (M := fun _ => False) (fun k h => h.elim) rfl rfl ent17 rfl rfl hGF (Q := fun w1 w2 v => Fr8 w1 w2 v (xs ++ s.bs)) (fun w1 h1 g1 => walX _ bw (xs ++ s.bs) (by omega) w1 g1 (hX.grow h1)) (fun w74a w74 v hg74 hm74 gg74 hq => ?_)
          have hGF := gt_low.plain gg74
          have hr74 := hg74.trans (hm74.grow (fun _ _ h => h))
          obtain ⟨ag, cg, rfl, hsg, hng⟩ := hq
          have hdg : ∀ k, Of a9 k → ¬ Of ag k := fun k h1 h2 => by have h3 := Of.lt hs k h1; have h4 := Of.new hng k h2; have h5 := hg74.size; omega
          have hbg : ¬ Of ag bw := fun h2 => by have h3 := hX.lt; have h4 := Of.new hng _ h2; have h5 := hg74.size; omega
          have hwg : ∀ k, Of ag k → w.heap.size ≤ k := fun k h2 => Nat.le_trans (hW.trans hg74).size (Of.new hng k h2)
          have hX := ((hX.grow hg74).sub (T' := fun k => Of a9 k ∨ Of ag k) (fun k hk => hk.elim .inl (fun h => .inr (Of.new hng k h)))).grow (hm74.grow (fun _ _ h => h))
          have hs := hs.grow hr74
          have hW : Grow w w74 := hW.trans hr74
          have hgt := gg74
          refine lx_assign rfl rfl rfl ?_
          refine lx_nil ?_
          refine xs_plain (E := EE [9, 10, 11, 12, 13, 14, 15, 16, 17]) ?_
          refine lx_move rfl rfl rfl ?_
          refine lx_move rfl rfl rfl ?_
          refine lx_callC rfl rfl ent18 (fun w1 hC hG => byt_calls (xs ++ s.bs) ag _ cg a9 _ c9 rfl rfl w1 hG (hsg.grow (hp_below hC)).bytes (hs.grow (hp_below hC)).bytes) rfl rfl ?_
          refine lx_un rfl (fun _ => un_not _) rfl rfl ?_
          refine lx_nil ?_
          refine x_false rfl ?_
          refine x_plain (E := EE [9, 10, 11, 12, 13, 14, 15, 16, 17]) ?_
          refine lx_move rfl rfl rfl ?_
          refine lx_callW gt_low (M := (Of ag)) (fun k h => Nat.zero_le _) rfl rfl ent14 rfl rfl hGF (Q := fun w1 w2 v => True) (fun w1 h1 g1 => (spo_calls ag cg (xs ++ s.bs) (by omega) w1 g1 (hsg.grow h1) (fun k _ => Nat.zero_le _)).mono fun e w2 ⟨q1, q2⟩ => ⟨_, q1, q2, trivial⟩) (fun w80a w80 v hg80 hm80 gg80 hq => ?_)
          have hGF := gt_low.plain gg80
          have hX := ((hX.grow hg80).mm hm80 hbg (fun k hk => .inr hk)).sub (T' := Of a9) (fun k hk => .inl (.inl hk))
          have hs := (hs.grow hg80).mm hm80 (fun ad e h => hdg _ ⟨ad, e, rfl⟩ h)
          have hW : Grow w w80 := hm80.grow0 (hW.trans hg80) hwg
          have hgt := gg80
          refine lx_nil ?_
          refine x_plain (E := EE [9, 10, 11, 12, 13, 14, 15, 16, 17]) ?_
          refine lx_move rfl rfl rfl ?_
          refine lx_bin (v := I (((k + 1 : Nat) : Int))) rfl rfl (fun _ => rfl) (fun _ => (bin_add_i _ _ _ (by unfold inI; omega)).trans (by rfl)) rfl rfl ?_
          refine lx_assign rfl rfl rfl ?_
          refine lx_nil ?_
          repeat (refine kblk_n ?_)
          refine kseq_n ?_
          exact ⟨rfl, ⟨(k + 1, _, xs ++ s.bs, a9, c9), hlt, ⟨hgt, hW, hX, hs, hn, hlx⟩⟩, by show ss.length - (k + 1) < ss.length - k; omega, rfl, ⟨rfl, rfl, rfl, rfl, trivial⟩⟩
        · skip
          refine lx_binB false rfl rfl (fun _ => rfl) (fun _ => bin_eql_i _ _ _) (beq_eq_false_iff_ne.2 h1) rfl rfl ?_
          refine lx_assign rfl rfl rfl ?_
          refine lx_nil ?_
          refine x_false rfl ?_
          refine xs_plain (E := EE [9, 10, 11, 12, 13, 14, 15, 16, 17]) ?_
          by_cases h2 : s.what = 2
          · skip
            have hlx : (xs ++ pb s.ls s.ls.length).length ≤ 8 * sm ss (k + 1) := by rw [hnx]; rw [List.length_append]; omega
            refine lx_binB true rfl rfl (fun _ => rfl) (fun _ => bin_eql_i _ _ _) (beq_iff_eq.2 h2) rfl rfl ?_
            refine lx_assign rfl rfl rfl ?_
            refine lx_nil ?_
            refine x_true rfl ?_
            refine xs_plain (E := EE [9, 10, 11, 12, 13, 14, 15, 16, 17]) ?_
            refine lx_move rfl rfl rfl ?_
            refine lx_move rfl rfl rfl ?_
            refine lx_isAW k 5 rfl rfl Try.underlying22 Try.sizeOf32 rfl (by omega) rfl rfl ?_
            refine lx_faA rfl Try.underlying32 rfl Try.sizeOf30 (by decide) rfl rfl ?_
            refine lx_load rfl Try.isAgg30 (fun w' h => (hat.grow (hW.trans (hp_below h))).c 4 _ rfl) rfl rfl ?_
            refine lx_callW gt_low (M := (fun k => k = bw)) (fun k h => Nat.zero_le _) rfl rfl ent15 rfl rfl hGF (Q := fun w1 w2 v => WrX (Of aw) w2 bw (xs ++ pb s.ls s.ls.length)) (fun w1 h1 g1 => wtX _ bw xs s.ls s.la s.lc (by omega) (by omega) w1 g1 (Nat.zero_le _) (hX.grow h1) (fun k hk => Nat.lt_of_lt_of_le (Of.lt hs k hk) h1.size) (hat.l.grow (hW.trans h1))) (fun w65a w65 v hg65 hm65 gg65 hq => ?_)
            have hGF := gt_low.plain gg65
            have hW : Grow w w65 := hm65.grow0 (hW.trans hg65) (fun k hk => hk ▸ hbw)
            have hs := (hs.grow hg65).mm hm65 (fun ad e h => (hn _ ⟨ad, e, rfl⟩).2 h)
            have hX := hq
            have hgt := gg65
            refine lx_nil ?_
            refine x_plain (E := EE [9, 10, 11, 12, 13, 14, 15, 16, 17]) ?_
            refine lx_move rfl rfl rfl ?_
            refine lx_move rfl rfl rfl ?_
            refine lx_move rfl rfl rfl ?_
            refine lx_isAW k 5 rfl rfl Try.underlying22 Try.sizeOf32 rfl (by omega) rfl rfl ?_
            refine lx_faA rfl Try.underlying32 rfl Try.sizeOf30 (by decide) rfl rfl ?_
            refine lx_load rfl Try.isAgg30 (fun w' h => (hat.grow (hW.trans (hp_below h))).c 4 _ rfl) rfl rfl ?_
            refine lx_callW gt_low (M := fun _ => False) (fun k h => h.elim) rfl rfl ent16 rfl rfl hGF (Q := fun w1 w2 v => Fr8 w1 w2 v (pb s.ls s.ls.length)) (fun w1 h1 g1 => (rbi_calls s.ls s.la s.lc (by omega) w1 g1 (hat.l.grow (hW.trans h1))).mono fun e w2 ⟨v, h1, h2, h3⟩ => ⟨v, h1, grow_mm h2, h3⟩) (fun w72a w72 v hg72 hm72 gg72 hq => ?_)
            have hGF := gt_low.plain gg72
            have hr72 := hg72.trans (hm72.grow (fun _ _ h => h))
            obtain ⟨ai, ci, rfl, hsi, hni⟩ := hq
            have hdi : ∀ k, Of aw k → ¬ Of ai k := fun k h1 h2 => by have h3 := Of.lt hs k h1; have h4 := Of.new hni k h2; have h5 := hg72.size; omega
            have hbi : ¬ Of ai bw := fun h2 => by have h3 := hX.lt; have h4 := Of.new hni _ h2; have h5 := hg72.size; omega
            have hwi : ∀ k, Of ai k → w.heap.size ≤ k := fun k h2 => Nat.le_trans (hW.trans hg72).size (Of.new hni k h2)
            have hX := ((hX.grow hg72).sub (T' := fun k => Of aw k ∨ Of ai k) (fun k hk => hk.elim .inl (fun h => .inr (Of.new hni k h)))).grow (hm72.grow (fun _ _ h => h))
            have hs := hs.grow hr72
            have hW : Grow w w72 := hW.trans hr72
            have hgt := gg72
            have hX := hX.sub (T' := Of aw) (fun k hk => .inl (.inl hk))
            refine lx_app8 (xs := xs) (ys := pb s.ls s.ls.length) gt_low (fun w' h => hGF.g _ _ _ h) rfl rfl Try.underlying28 Try.underlying28 ti5 (fun w' h => hs.grow (hp_below h)) (fun k _ => Nat.zero_le _) (fun w' h => (hsi.grow (hp_below h)).bytes) (fun w' h hy ad e hof => hdi _ hof ⟨ad, e, rfl⟩) (by omega) rfl rfl (fun w73a w73 a9 c9 hC g2 hm hs9 ho => ?_)
            have hn9 := nw_next hn (hW.trans (hp_below hC)) (hX.grow (hp_below hC)).lt ho
            have hX := (hX.grow (hp_below hC)).app hm (fun h => (hn _ h).2 rfl) ho
            have hW : Grow w w73 := hm.grow0 (hW.trans (hp_below hC)) (fun k hk => (hn k hk).1)
            have hs := hs9
            have hn := hn9
            have hgt := g2
            have hGF := gt_low.plain g2
            clear hC hm ho
            refine lx_assign rfl rfl rfl ?_
            refine lx_nil ?_
            refine xs_plain (E := EE [9, 10, 11, 12, 13, 14, 15, 16, 17]) ?_
            refine lx_callW gt_low (M := fun _ => False) (fun k h => h.elim) rfl rfl ent17 rfl rfl hGF (Q := fun w1 w2 v => Fr8 w1 w2 v (xs ++ pb s.ls s.ls.length)) (fun w1 h1 g1 => walX _ bw (xs ++ pb s.ls s.ls.length) (by omega) w1 g1 (hX.grow h1)) (fun w74a w74 v hg74 hm74 gg74 hq => ?_)
            have hGF := gt_low.plain gg74
            have hr74 := hg74.trans (hm74.grow (fun _ _ h => h))
            obtain ⟨ag, cg, rfl, hsg, hng⟩ := hq
            have hdg : ∀ k, Of a9 k → ¬ Of ag k := fun k h1 h2 => by have h3 := Of.lt hs k h1; have h4 := Of.new hng k h2; have h5 := hg74.size; omega
            have hbg : ¬ Of ag bw := fun h2 => by have h3 := hX.lt; have h4 := Of.new hng _ h2; have h5 := hg74.size; omega
            have hwg : ∀ k, Of ag k → w.heap.size ≤ k := fun k h2 => Nat.le_trans (hW.trans hg74).size (Of.new hng k h2)
            have hX := ((hX.grow hg74).sub (T' := fun k => Of a9 k ∨ Of ag k) (fun k hk => hk.elim .inl (fun h => .inr (Of.new hng k h)))).grow (hm74.grow (fun _ _ h => h))
            have hs := hs.grow hr74
            have hW : Grow w w74 := hW.trans hr74
            have hgt := gg74
            refine lx_assign rfl rfl rfl ?_
            refine lx_nil ?_
            refine xs_plain (E := EE [9, 10, 11, 12, 13, 14, 15, 16, 17]) ?_
            refine lx_move rfl rfl rfl ?_
            refine lx_move rfl rfl rfl ?_
            refine lx_callC rfl rfl ent18 (fun w1 hC hG => byt_calls (xs ++ pb s.ls s.ls.length) ag _ cg a9 _ c9 rfl rfl w1 hG (hsg.grow (hp_below hC)).bytes (hs.grow (hp_below hC)).bytes) rfl rfl ?_
            refine lx_un rfl (fun _ => un_not _) rfl rfl ?_
            refine lx_nil ?_
            refine x_false rfl ?_
            refine x_plain (E := EE [9, 10, 11, 12, 13, 14, 15, 16, 17]) ?_
            refine lx_move rfl rfl rfl ?_
            refine lx_callW gt_low (M := (Of ag)) (fun k h => Nat.zero_le _) rfl rfl ent14 rfl rfl hGF (Q := fun w1 w2 v => True) (fun w1 h1 g1 => (spo_calls ag cg (xs ++ pb s.ls s.ls.length) (by omega) w1 g1 (hsg.grow h1) (fun k _ => Nat.zero_le _)).mono fun e w2 ⟨q1, q2⟩ => ⟨_, q1, q2, trivial⟩) (fun w80a w80 v hg80 hm80 gg80 hq => ?_)
            have hGF := gt_low.plain gg80
            have hX := ((hX.grow hg80).mm hm80 hbg (fun k hk => .inr hk)).sub (T' := Of a9) (fun k hk => .inl (.inl hk))
            have hs := (hs.grow hg80).mm hm80 (fun ad e h => hdg _ ⟨ad, e, rfl⟩ h)
            have hW : Grow w w80 := hm80.grow0 (hW.trans hg80) hwg
            have hgt := gg80
            refine lx_nil ?_
            refine x_plain (E := EE [9, 10, 11, 12, 13, 14, 15, 16, 17]) ?_
            refine lx_move rfl rfl rfl ?_
            refine lx_bin (v := I (((k + 1 : Nat) : Int))) rfl rfl (fun _ => rfl) (fun _ => (bin_add_i _ _ _ (by unfold inI; omega)).trans (by rfl)) rfl rfl ?_
            refine lx_assign rfl rfl rfl ?_
            refine lx_nil ?_
            repeat (refine kblk_n ?_)
            refine kseq_n ?_
            exact ⟨rfl, ⟨(k + 1, _, xs ++ pb s.ls s.ls.length, a9, c9), hlt, ⟨hgt, hW, hX, hs, hn, hlx⟩⟩, by show ss.length - (k + 1) < ss.length - k; omega, rfl, ⟨rfl, rfl, rfl, rfl, trivial⟩⟩
          · skip
            have hlx : (xs).length ≤ 8 * sm ss (k + 1) := by rw [hnx]; omega
            refine lx_binB false rfl rfl (fun _ => rfl) (fun _ => bin_eql_i _ _ _) (beq_eq_false_iff_ne.2 h2) rfl rfl ?_
            refine lx_assign rfl rfl rfl ?_
            refine lx_nil ?_
            refine x_false rfl ?_
            refine x_skip ?_
            refine xs_plain (E := EE [9, 10, 11, 12, 13, 14, 15, 16, 17]) ?_
            refine lx_callW gt_low (M := fun _ => False) (fun k h => h.elim) rfl rfl ent17 rfl rfl hGF (Q := fun w1 w2 v => Fr8 w1 w2 v (xs)) (fun w1 h1 g1 => walX _ bw (xs) (by omega) w1 g1 (hX.grow h1)) (fun w74a w74 v hg74 hm74 gg74 hq => ?_)
            have hGF := gt_low.plain gg74
            have hr74 := hg74.trans (hm74.grow (fun _ _ h => h))
            obtain ⟨ag, cg, rfl, hsg, hng⟩ := hq
            have hdg : ∀ k, Of aw k → ¬ Of ag k := fun k h1 h2 => by have h3 := Of.lt hs k h1; have h4 := Of.new hng k h2; have h5 := hg74.size; omega
            have hbg : ¬ Of ag bw := fun h2 => by have h3 := hX.lt; have h4 := Of.new hng _ h2; have h5 := hg74.size; omega
            have hwg : ∀ k, Of ag k → w.heap.size ≤ k := fun k h2 => Nat.le_trans (hW.trans hg74).size (Of.new hng k h2)
            have hX := ((hX.grow hg74).sub (T' := fun k => Of aw k ∨ Of ag k) (fun k hk => hk.elim .inl (fun h => .inr (Of.new hng k h)))).grow (hm74.grow (fun _ _ h => h))
            have hs := hs.grow hr74
            have hW : Grow w w74 := hW.trans hr74
            have hgt := gg74
            refine lx_assign rfl rfl rfl ?_
            refine lx_nil ?_
            refine xs_plain (E := EE [9, 10, 11, 12, 13, 14, 15, 16, 17]) ?_
            refine lx_move rfl rfl rfl ?_
            refine lx_move rfl rfl rfl ?_
            refine lx_callC rfl rfl ent18 (fun w1 hC hG => byt_calls (xs) ag _ cg aw _ cw rfl rfl w1 hG (hsg.grow (hp_below hC)).bytes (hs.grow (hp_below hC)).bytes) rfl rfl ?_
            refine lx_un rfl (fun _ => un_not _) rfl rfl ?_
            refine lx_nil ?_
            refine x_false rfl ?_
            refine x_plain (E := EE [9, 10, 11, 12, 13, 14, 15, 16, 17]) ?_
            refine lx_move rfl rfl rfl ?_
            refine lx_callW gt_low (M := (Of ag)) (fun k h => Nat.zero_le _) rfl rfl ent14 rfl rfl hGF (Q := fun w1 w2 v => True) (fun w1 h1 g1 => (spo_calls ag cg (xs) (by omega) w1 g1 (hsg.grow h1) (fun k _ => Nat.zero_le _)).mono fun e w2 ⟨q1, q2⟩ => ⟨_, q1, q2, trivial⟩) (fun w80a w80 v hg80 hm80 gg80 hq => ?_)
            have hGF := gt_low.plain gg80
            have hX := ((hX.grow hg80).mm hm80 hbg (fun k hk => .inr hk)).sub (T' := Of aw) (fun k hk => .inl (.inl hk))
            have hs := (hs.grow hg80).mm hm80 (fun ad e h => hdg _ ⟨ad, e, rfl⟩ h)
            have hW : Grow w w80 := hm80.grow0 (hW.trans hg80) hwg
            have hgt := gg80
            refine lx_nil ?_
            refine x_plain (E := EE [9, 10, 11, 12, 13, 14, 15, 16, 17]) ?_
            refine lx_move rfl rfl rfl ?_
            refine lx_bin (v := I (((k + 1 : Nat) : Int))) rfl rfl (fun _ => rfl) (fun _ => (bin_add_i _ _ _ (by unfold inI; omega)).trans (by rfl)) rfl rfl ?_
            refine lx_assign rfl rfl rfl ?_
            refine lx_nil ?_
            repeat (refine kblk_n ?_)
            refine kseq_n ?_
            exact ⟨rfl, ⟨(k + 1, _, xs, aw, cw), hlt, ⟨hgt, hW, hX, hs, hn, hlx⟩⟩, by show ss.length - (k + 1) < ss.length - k; omega, rfl, ⟨rfl, rfl, rfl, rfl, trivial⟩⟩
    · skip
      refine lx_binB false rfl rfl (fun _ => rfl) (fun _ => bin_lss_i _ _ _) (by simp; omega) rfl rfl ?_
      refine lx_nil ?_
      refine x_false rfl ?_
      refine x_exit ?_
      refine xs_plain (E := EE [9, 10, 11, 12, 13, 14, 15, 16, 17]) ?_
      refine lx_assign rfl rfl rfl ?_
      refine lx_nil ?_
      refine x_ret ?_
      repeat (first | refine kseq_ret ?_ | refine kblk_ret ?_)
      exact kret_tmp rfl rfl (fun w' hw' => ⟨rfl, hW.trans (hp_below hw')⟩)
end Go.Proofs.Ytjifjpcgdkepkaa
