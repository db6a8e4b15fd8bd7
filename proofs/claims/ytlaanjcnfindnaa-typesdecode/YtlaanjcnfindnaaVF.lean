/-
  The document's reader: committees, aggregates, the end.
-/
import Derived.Test.YtlaanjcnfindnaaVE
import Derived.Test.YtlaanjcnfindnaaX3
namespace Go.Proofs.Ytlaanjcnfindnaa
open Go.RowKit
set_option maxRecDepth 100000
set_option maxHeartbeats 1000000

def Co0 : List Value := .slice none 0 0 :: Z48.map U8
theorem zvCo (w : World) : (zeroValue 31).run Try.prog w = .ok (.agg Co0.toArray) w := (Try.zeroValue31 w).trans (by rfl)
theorem tiK : TI Try.prog 29 (.agg (Z48.map U8).toArray) 48 48 := ti_mk (by kernel_rfl)
def keysOf (bs : By) (n : Nat) : List By := (List.range n).map fun j => sub bs (48 * j) 48
theorem keysOf_len (bs : By) (n : Nat) : (keysOf bs n).length = n := by simp [keysOf]
theorem keysOf_s (bs : By) (n : Nat) : (keysOf bs (n + 1)).flatten.map U8 = (keysOf bs n).flatten.map U8 ++ (sub bs (48 * n) 48).map U8 := by simp [keysOf, List.range_succ]
theorem keysOf_all {bs : By} {n : Nat} (h : 48 * n ≤ bs.length) : ∀ r ∈ keysOf bs n, r.length = 48 := fun r hr => by
  obtain ⟨j, hj, rfl⟩ := List.mem_map.1 hr
  exact sub_len (by have := List.mem_range.1 hj; omega)
theorem keysOf_fl {bs : By} : ∀ {n : Nat}, 48 * n ≤ bs.length → ((keysOf bs n).flatten.map U8).length = n * 48
  | 0, _ => rfl
  | n + 1, h => by rw [keysOf_s, List.length_append, keysOf_fl (by omega), List.length_map, sub_len (by omega)]; omega
theorem RW_one {s : Nat} {x : List (BitVec 8)} (hx : x.length = s) : RW s (fun _ => x) 1 = x := by
  rw [RW_succ (fun _ => x) 0 hx, show RW s (fun _ => x) 0 = [] from by simp [RW], List.nil_append]
def isBsl (o : Oper) : Bool := match o.op with
  | .buildSlice .. => true
  | _ => false
structure RcS (S : Nat → Prop) (w0 : World) (b b4 b5 : Nat) (bs : By) (i : Nat) (w : World) (ka : Option Addr) (kc : Nat) : Prop where
  g : Gt w
  m : MM (fun k => k = b) w0 w
  rd : RdAt 84 S w b (bs.drop (48 * i)) 0
  o4 : OwnB w b4 Co0 31
  o5 : OwnB w b5 (.slice ka i kc :: Z48.map U8) 31
  ks : SlW 29 48 w ka kc i ((keysOf bs i).flatten.map U8)
  kn : ∀ k, Of ka k → w0.heap.size ≤ k ∧ k ≠ b4 ∧ k ≠ b5
theorem lay_tail {x : Value} {l z : By} (h : l.length = z.length) : lay 1 (l.map U8) (x :: z.map U8) = x :: l.map U8 := by
  rw [lay_eq _ _ _ (by simp [h]; omega)]
  simp [h]; omega
theorem CoC_one (a : Option Addr) (n c : Nat) (l : By) : (Value.slice a n c :: l.map U8).all (·.oneCell') = true := by rw [List.all_cons, one_u8]; rfl
theorem rco_calls (S : Nat → Prop) (b : Nat) (bs : By) (n : Nat) (hn : n ≤ 1000) (hl : 48 * n + 48 ≤ bs.length) (w : World) (hw : Gt w) (hb : b < w.heap.size) (hrd : RdAt 84 S w b bs 0) (hSz : ∀ k, S k → k < w.heap.size) : Calls Try.prog 46 [.pointer (some ⟨b, 0, none⟩), I (n : Int)].toArray w (fun r w' => ∃ v, r = .returned v ∧ MM (fun k => k = b) w w' ∧ (∃ ka kc, v = .agg (.slice ka n kc :: (sub bs (48 * n) 48).map U8).toArray ∧ SlW 29 48 w' ka kc n ((keysOf bs n).flatten.map U8) ∧ ∀ k, Of ka k → w.heap.size ≤ k) ∧ RdAt 84 S w' b (bs.drop (48 * n + 48)) 0) := by
  have hGF : BOk Gt (pl w) := gt_low.plain hw
  refine calls_of_X (G := Gt) Try.func46 rfl rfl (Hp (pl w) []) (hp_refl (pl w) trivial rides_true) (good_hp hGF) ?_
  refine xs_plain (E := EE []) ?_
  refine lx_allocr 4 hGF zvCo rfl rfl ?_
  intro b4
  refine lx_nil ?_
  refine xs_plain (E := EE []) ?_
  refine lx_allocr 5 hGF zvCo rfl rfl ?_
  intro b5
  refine lx_nil ?_
  refine x_seq ?_
  refine x_now0 gt_low (fun w3 hC g3 => ?_)
  have hM : MM (fun k => k = b) w w3 := grow_mm (hp_below hC)
  have hrd := hrd.grow (hp_below hC)
  have ho4 := (hC.own 4 _ _ _ rfl).1
  have hz4 : w.heap.size ≤ b4 := (hC.own 4 _ _ _ rfl).2.elim id False.elim
  have hn4 : b4 ≠ b := fun e => by omega
  have ho5 := (hC.own 5 _ _ _ rfl).1
  have hz5 : w.heap.size ≤ b5 := (hC.own 5 _ _ _ rfl).2.elim id False.elim
  have hn5 : b5 ≠ b := fun e => by omega
  have hx5_4 : b5 ≠ b4 := fun e => by subst e; exact absurd (hC.inj 5 4 _ _ _ _ _ rfl rfl) (by decide)
  clear hC
  have hGF := gt_low.plain g3
  refine xs_plain (E := EE []) ?_
  refine lx_assign rfl rfl rfl ?_
  refine lx_nil ?_
  refine x_block ?_
  refine x_forW gt_low (ι := { x : Nat × World × Option Addr × Nat // x.1 ≤ n ∧ RcS S w b b4 b5 bs x.1 x.2.1 x.2.2.1 x.2.2.2 }) (fun x => [(0, .pointer (some ⟨b, 0, none⟩)), (1, I (n : Int)), (4, .pointer (some ⟨b4, 0, none⟩)), (5, .pointer (some ⟨b5, 0, none⟩)), (6, I (x.1.1 : Int))]) (fun x => x.1.2.1) (fun x => n - x.1.1) ⟨(0, w3, none, 0), Nat.zero_le _, ⟨g3, hM, hrd, ho4, ho5, .inl ⟨rfl, rfl, rfl, rfl⟩, fun k h => by obtain ⟨_, h, _⟩ := h; cases h⟩⟩ (fun x => x.2.2.g) rfl ⟨rfl, rfl, rfl, rfl, rfl, trivial⟩ ?_
  clear hM hrd ho4 ho5 hGF
  rintro ⟨⟨i, wk, ka, kc⟩, hi, hI⟩
  dsimp only at hi hI ⊢
  obtain ⟨gk, hM, hrd, ho4, ho5, hks, hkn⟩ := hI
  have hGF := gt_low.plain gk
  refine x_seq ?_
  refine xs_plain (E := EE []) ?_
  refine lx_move rfl rfl rfl ?_
  refine lx_move rfl rfl rfl ?_
  rcases Nat.lt_or_ge i n with hlt | hge
  · skip
    refine lx_binB true rfl rfl (fun _ => rfl) (fun _ => bin_lss_i _ _ _) (by simp; omega) rfl rfl ?_
    refine lx_nil ?_
    refine x_true rfl ?_
    refine x_skip ?_
    refine x_seq ?_
    refine x_block ?_
    refine x_drawK (E := EE [64]) (fun X => X = (fun w' => OwnB w' b5 (.slice ka i kc :: Z48.map U8) 31)) (fun o => mkC [64] o || isBsl o) (rkB [13]) [0, 1, 2, 3, 4, 5, 6, 7] mixed rfl (by kernel_rfl) (by kernel_rfl) (by kernel_rfl) ?_
    refine lxk_s rfl rfl ?_
    refine lx_fak 0 rfl Try.underlying31 rfl Try.sizeOf27 (by decide) rfl rfl rfl ?_
    refine lx_nil ?_
    refine lxk_q (X := fun w' => OwnB w' b5 (.slice ka i kc :: Z48.map U8) 31) rfl (fun w' h => ho5.grow (hp_below h)) (fun _ => rfl) ?_
    refine lx_load rfl Try.isAgg27 (fun w' h => (h.cell 0).trans rfl) rfl rfl ?_
    refine lx_nil ?_
    refine lxk_s rfl rfl ?_
    refine lx_move rfl rfl rfl ?_
    refine lx_nil ?_
    refine lxk_e rfl ?_
    refine lx_callW gt_low (M := fun k => k = b) (fun k _ => Nat.zero_le k) rfl rfl ent64 rfl rfl hGF (Q := fun w1 w2 v => v = .agg ((sub bs (48 * i) 48).map U8).toArray ∧ RdAt 84 S w2 b (bs.drop (48 * i + 48)) 0) (fun w1 h1 g1 => (rkyk (by rw [List.length_drop]; omega) w1 g1 (by have := hM.size; have := h1.size; omega) (hrd.grow h1) (fun k hk => by have := hSz k hk; have := hM.size; have := h1.size; omega)).mono fun r w2 ⟨v, q1, q2, q3, q4⟩ => ⟨v, q1, q2, q3, by rw [List.drop_drop] at q4; exact q4⟩) (fun w15a w15 v hg15 hm15 gg15 hq => ?_)
    have hGF := gt_low.plain gg15
    have hM := (hM.trans (grow_mm hg15)).trans hm15
    have ho4 := hm15.own (ho4.grow hg15) hn4
    have ho5 := hm15.own (ho5.grow hg15) hn5
    obtain ⟨rfl, hrd⟩ := hq
    have hks := (hks.grow hg15).mm hm15 (fun k hk e => by have := (hkn k hk).1; omega)
    rw [show 48 * i + 48 = 48 * (i + 1) from by omega] at hrd
    clear hg15 hm15
    refine lx_nil ?_
    refine ⟨fun _ X hX _ => by subst hX; exact fun w' h => ho5.grow (hp_below h), ?_⟩
    refine lxk_e rfl ?_
    refine lx_bslWG (uf := U8) (s := 48) 16 (fun _ => (sub bs (48 * i) 48)) Z48 hGF rfl rfl rfl (fun _ _ => sub_len (by omega)) (by decide) (by decide) Try.underlying27 Try.sizeOf29 rfl zvK rfl rfl ?_
    intro b16
    rw [RW_one (sub_len (by omega))]
    refine lx_nil ?_
    refine ⟨fun _ X hX _ => by subst hX; exact fun w' h => ho5.grow (hp_below h), ?_⟩
    refine lxk_e rfl ?_
    refine lx_appW (s := 48) (nx := i) (xs := (keysOf bs i).flatten.map U8) (ys := (sub bs (48 * i) 48).map U8) gt_low (fun w' h => hGF.g _ _ _ h) rfl rfl Try.underlying27 Try.underlying27 tiK rfl (fun w' h => hks.grow (hp_below h)) (fun k _ => Nat.zero_le k) (by rw [List.length_map, sub_len (by omega)]) (fun w' h => hp_row (n := 16) rfl w' h) (one_u8 _) (fun w' h hof => by have h1 := hks.lt _ hof; have h2 := (h.own 16 _ _ _ rfl).2.elim id False.elim; simp only [pl] at h2; omega) (by omega) (by omega) rfl rfl (fun wAa wA aA cA hC g2 hm hs ho => ?_)
    rw [← keysOf_s] at hs
    have hl4 := (ho4.grow (hp_below hC)).lt
    have hl5 := (ho5.grow (hp_below hC)).lt
    have hM := hM.trans (grow_mm (hp_below hC))
    have hzA := hM.size
    have hM := hM.trans' hm (fun k hk hl => by have := (hkn k hk).1; omega)
    have hrd := (hrd.grow (hp_below hC)).mm hm (fun h => by have := (hkn _ h).1; omega) (fun k hk hl h => by have := hSz k hk; have := (hkn _ h).1; omega)
    have ho4 := hm.own (ho4.grow (hp_below hC)) (fun h => (hkn _ h).2.1 rfl)
    have ho5 := hm.own (ho5.grow (hp_below hC)) (fun h => (hkn _ h).2.2 rfl)
    have hkn : ∀ k, Of aA k → w.heap.size ≤ k ∧ k ≠ b4 ∧ k ≠ b5 := fun k hk => by rcases ho k hk with h1 | h1; exact hkn k h1; exact ⟨by omega, by omega, by omega⟩
    have hks := hs
    have hGF := gt_low.plain g2
    clear hC hm hs ho hl4 hl5 hzA g2
    refine lx_nil ?_
    refine ⟨fun h => (by cases h), ?_⟩
    refine lxk_s rfl rfl ?_
    refine lx_fak 0 rfl Try.underlying31 rfl Try.sizeOf27 (by decide) rfl rfl rfl ?_
    refine lx_nil ?_
    refine lxk_e rfl ?_
    refine lx_st1W gt_low (fun w' h => hGF.g _ _ _ h) (fun w' h => ho5.grow (hp_below h)) (Nat.zero_le _) rfl rfl Try.sizeOf27 rfl (by simp) rfl (fun wBa wB hC g2 hm h2 => ?_)
    have hks := (hks.grow (hp_below hC)).mm hm (fun k hk e => (hkn k hk).2.2 e)
    have hM := (hM.trans (grow_mm (hp_below hC))).trans' hm (fun i e hi => by subst e; omega)
    have hrd := (hrd.grow (hp_below hC)).mm hm (fun e => hn5 e.symm) (fun i hi hl e => by have := hSz i hi; subst e; omega)
    have ho4 := hm.own (ho4.grow (hp_below hC)) (fun e => hx5_4 e.symm)
    have ho5 := h2
    have hGF := gt_low.plain g2
    clear hC hm h2
    refine lx_nil ?_
    refine ⟨fun h => (by cases h), ?_⟩
    refine lxk_nil ?_
    refine x_plain (E := EE []) ?_
    refine lx_move rfl rfl rfl ?_
    refine lx_bin (v := I (((i + 1 : Nat) : Int))) rfl rfl (fun _ => rfl) (fun _ => (bin_add_i _ _ _ (by unfold inI; omega)).trans (by rfl)) rfl rfl ?_
    refine lx_assign rfl rfl rfl ?_
    refine lx_nil ?_
    repeat (refine kblk_n ?_)
    refine kseq_n ?_
    exact ⟨rfl, ⟨(i + 1, wB, aA, cA), hlt, ⟨g2, hM, hrd, ho4, ho5, hks, hkn⟩⟩, by show n - (i + 1) < n - i; omega, rfl, ⟨rfl, rfl, rfl, rfl, rfl, trivial⟩⟩
  · skip
    obtain rfl : n = i := by omega
    refine lx_binB false rfl rfl (fun _ => rfl) (fun _ => bin_lss_i _ _ _) (by rw [decide_eq_false_iff_not]; omega) rfl rfl ?_
    refine lx_nil ?_
    refine x_false rfl ?_
    refine x_exit ?_
    refine xs_plain (E := EE [64]) ?_
    refine lx_move rfl rfl rfl ?_
    refine lx_callW gt_low (M := fun k => k = b) (fun k _ => Nat.zero_le k) rfl rfl ent64 rfl rfl hGF (Q := fun w1 w2 v => v = .agg ((sub bs (48 * n) 48).map U8).toArray ∧ RdAt 84 S w2 b (bs.drop (48 * n + 48)) 0) (fun w1 h1 g1 => (rkyk (by rw [List.length_drop]; omega) w1 g1 (by have := hM.size; have := h1.size; omega) (hrd.grow h1) (fun k hk => by have := hSz k hk; have := hM.size; have := h1.size; omega)).mono fun r w2 ⟨v, q1, q2, q3, q4⟩ => ⟨v, q1, q2, q3, by rw [List.drop_drop] at q4; exact q4⟩) (fun w20a w20 v hg20 hm20 gg20 hq => ?_)
    have hGF := gt_low.plain gg20
    have hM := (hM.trans (grow_mm hg20)).trans hm20
    have ho4 := hm20.own (ho4.grow hg20) hn4
    have ho5 := hm20.own (ho5.grow hg20) hn5
    obtain ⟨rfl, hrd⟩ := hq
    have hks := (hks.grow hg20).mm hm20 (fun k hk e => by have := (hkn k hk).1; omega)
    clear hg20 hm20
    refine lx_fak 1 rfl Try.underlying31 rfl Try.sizeOf29 (by decide) rfl rfl rfl ?_
    refine lx_stW gt_low (fun w' h => hGF.g _ _ _ h) (fun w' h => ho5.grow (hp_below h)) (Nat.zero_le _) rfl rfl Try.sizeOf29 (by rw [List.length_map]; exact sub_len (by omega)) (one_u8 _) (by rw [List.length_map, sub_len (by omega)]; simp [Z48]) rfl (fun wDa wD hC g2 hm h2 => ?_)
    rw [show lay 1 ((sub bs (48 * n) 48).map U8) (.slice ka n kc :: Z48.map U8) = .slice ka n kc :: (sub bs (48 * n) 48).map U8 from lay_tail (by rw [sub_len (by omega)]; rfl)] at h2
    have hks := (hks.grow (hp_below hC)).mm hm (fun k hk e => (hkn k hk).2.2 e)
    have hM := (hM.trans (grow_mm (hp_below hC))).trans' hm (fun i e hi => by subst e; omega)
    have hrd := (hrd.grow (hp_below hC)).mm hm (fun e => hn5 e.symm) (fun i hi hl e => by have := hSz i hi; subst e; omega)
    have ho4 := hm.own (ho4.grow (hp_below hC)) (fun e => hx5_4 e.symm)
    have ho5 := h2
    have hGF := gt_low.plain g2
    clear hC hm h2
    refine lx_nil ?_
    refine xs_plain (E := EE []) ?_
    have hcl : (.slice ka n kc :: (sub bs (48 * n) 48).map U8).length = 49 := by rw [List.length_cons, List.length_map, sub_len (by omega)]
    refine lx_loadr (cs := .slice ka n kc :: (sub bs (48 * n) 48).map U8) rfl Try.isAgg31 Try.sizeOf31 hcl (fun w' h => (ho5.grow (hp_below h)).range) rfl rfl ?_
    refine lx_stW gt_low (fun w' h => hGF.g _ _ _ h) (fun w' h => ho4.grow (hp_below h)) (Nat.zero_le _) rfl rfl Try.sizeOf31 (hcl) (CoC_one _ _ _ _) (by rw [hcl]; decide) rfl (fun wFa wF hC g2 hm h2 => ?_)
    rw [lay_all _ _ (by rw [hcl]; rfl)] at h2
    have hks := (hks.grow (hp_below hC)).mm hm (fun k hk e => (hkn k hk).2.1 e)
    have hM := (hM.trans (grow_mm (hp_below hC))).trans' hm (fun i e hi => by subst e; omega)
    have hrd := (hrd.grow (hp_below hC)).mm hm (fun e => hn4 e.symm) (fun i hi hl e => by have := hSz i hi; subst e; omega)
    have ho5 := hm.own (ho5.grow (hp_below hC)) hx5_4
    have ho4 := h2
    have hGF := gt_low.plain g2
    clear hC hm h2
    refine lx_nil ?_
    refine x_ret ?_
    repeat (first | refine kseq_ret ?_ | refine kblk_ret ?_)
    exact kret_cell rfl rfl Try.isAgg31 Try.sizeOf31 hcl (fun w' h => (ho4.grow (hp_below h)).range) (fun w' hw' => ⟨_, rfl, hM.trans (grow_mm (hp_below hw')), ⟨ka, kc, rfl, hks.grow (hp_below hw'), fun k hk => (hkn k hk).1⟩, hrd.grow (hp_below hw')⟩)
end Go.Proofs.Ytlaanjcnfindnaa
