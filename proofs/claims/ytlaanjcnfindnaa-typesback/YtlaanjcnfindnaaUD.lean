/-
  The program's keys, read; a field's reading.
-/
import Derived.Test.YtlaanjcnfindnaaUC
namespace Go.Proofs.Ytlaanjcnfindnaa
open Go.RowKit
set_option maxRecDepth 100000
set_option maxHeartbeats 1000000

theorem lft_le (bs : By) (e : Int) (m : Nat) : (lft bs e m).length ≤ bs.length := by
  unfold lft
  split
  · rw [List.length_drop]; omega
  · exact Nat.le_refl _
/-- Keys that are read: how far. -/
structure KR (B : Nat) (w : World) (ob rb b7 n : Nat) (bs : By) (e : Int) (i : Nat) (W : World) (bi : By) (ei : Int) : Prop where
  g : Gt W
  m : MM (fun k => k = rb) w W
  d : ∃ d, OwnB W b7 d 29 ∧ d.length = n * 48 ∧ (e = 0 → 48 * n ≤ bs.length → d.take (i * 48) = (keysOf bs i).flatten.map U8)
  r : RdX ob B W rb bi ei
  l : bi.length ≤ 100000
  z : e = 0 → 48 * n ≤ bs.length → ei = 0 ∧ bi = bs.drop (48 * i)
  e : e ≠ 0 → ei = e
theorem rkey_c (B ob o q rb : Nat) (hne : rb ≠ ob) (hqr : q ≠ rb) (t : TypeId) (c : List Value) (hoc : o < c.length) (n r : Nat) (hn : n ≤ 1000) (bs : By) (e : Int) (hl : bs.length ≤ 100000) (w : World) (hw : Gt w) (ho : OwnB w ob c t) (hBw : B ≤ w.heap.size) (hq : w.rangeAt q 0 [pt ob o]) (hqn : w.rangeAt r 0 [I (n : Int)]) (hr : RdX ob B w rb bs e) : Calls Try.prog 82 [pt rb 0, pt r 0, pt q 0].toArray w (fun x w' => x = .returned (.tuple #[]) ∧ ∃ b7 bi ei, RdQ B w ob rb t (c.set o (.slice (some ⟨b7, 0, none⟩) n n)) bi ei w' ∧ (e ≠ 0 → ei = e) ∧ (e = 0 → 48 * n ≤ bs.length → ei = 0 ∧ bi = bs.drop (48 * n) ∧ SlW 29 48 w' (some ⟨b7, 0, none⟩) n n ((keysOf bs n).flatten.map U8)) ∧ w.heap.size ≤ b7 ∧ bi.length ≤ 100000) := by
  obtain ⟨S, hr, hSo⟩ := hr
  have hGF : BOk Gt (pl w) := gt_low.plain hw
  refine calls_of_X (G := Gt) Try.func82 rfl rfl (Hp (pl w) []) (hp_refl (pl w) trivial rides_true) (good_hp hGF) ?_
  refine xs_plain (E := EE [80]) ?_
  refine lx_load (v := I (n : Int)) rfl Try.isAgg3 (fun w' h => rg0 hqn h 0 _ rfl) rfl rfl ?_
  refine lx_mkslC (l := n) (m := n) (c := _) 7 hGF rfl rfl (Nat.le_refl _) Try.underlying27 tiK ⟨by omega, by omega, by omega⟩ rfl rfl rfl ?_
  intro b7
  refine lx_assign rfl rfl rfl ?_
  refine lx_nil ?_
  refine x_seq ?_
  refine xs_plain (E := EE [80]) ?_
  refine lx_move rfl rfl rfl ?_
  refine lx_len rfl (fun _ => len_slice Try.underlying27 _ _ _ _) rfl rfl ?_
  refine lx_move rfl rfl rfl ?_
  refine lx_nil ?_
  refine x_block ?_
  refine x_now0 gt_low (fun w3 hC g3 => ?_)
  have h7w : w.heap.size ≤ b7 := (hC.own 7 _ _ _ rfl).2.elim id False.elim
  have hrl : rb < w.heap.size := hr.lt
  have h7r : ¬ b7 = rb := by omega
  have hql : q < w.heap.size := block_lt_of_cell (hq 0 _ rfl)
  have hI : KR B w ob rb b7 n bs e 0 w3 bs e := ⟨g3, grow_mm (hp_below hC), ⟨_, (hC.own 7 _ _ _ rfl).1, by simp [madeCells], fun _ _ => by rw [Nat.zero_mul]; rfl⟩, RdX.grow ⟨S, hr, hSo⟩ (hp_below hC), hl, fun h _ => ⟨h, rfl⟩, fun _ => rfl⟩
  clear hC hr hSo hl hqn
  refine x_forW gt_low (ι := { x : Nat × World × By × Int // x.1 ≤ n ∧ KR B w ob rb b7 n bs e x.1 x.2.1 x.2.2.1 x.2.2.2 }) (fun x => [(0, pt rb 0), (2, pt q 0), (4, .slice (some ⟨b7, 0, none⟩) n n), (8, .slice (some ⟨b7, 0, none⟩) n n), (9, I (n : Int)), (10, I (x.1.1 : Int))]) (fun x => x.1.2.1) (fun x => n - x.1.1) ⟨(0, w3, bs, e), Nat.zero_le _, hI⟩ (fun x => x.2.2.g) rfl ⟨rfl, rfl, rfl, rfl, rfl, rfl, trivial⟩ ?_
  clear hI S
  rintro ⟨⟨i, W, bi, ei⟩, hi, hI⟩
  dsimp only at hi hI ⊢
  have hGF : BOk Gt (pl W) := gt_low.plain hI.g
  obtain ⟨S, hrS, hSo⟩ := hI.r
  obtain ⟨d, hd, hdl, hdt⟩ := hI.d
  have hqW := hI.m.range hq hqr
  have hoW := hI.m.own ho (fun h => hne h.symm)
  refine xs_plain (E := EE [80]) ?_
  refine lx_bin rfl rfl (fun _ => rfl) (fun _ => bin_lss_i _ _ _) rfl rfl ?_
  refine lx_nil ?_
  refine x_seq ?_
  refine x_if rfl (fun hc => ?_) (fun hc => ?_)
  · have hlt : i < n := by simp at hc; omega
    clear hc
    refine x_skip ?_
    refine x_seq ?_
    refine x_block ?_
    refine xs_plain (E := EE [80]) ?_
    refine lx_move rfl rfl rfl ?_
    refine lx_assign rfl rfl rfl ?_
    refine lx_nil ?_
    refine x_drawn (E := EE [80]) mixed (by kernel_rfl) (by kernel_rfl) (by kernel_rfl) ?_
    refine lx_move rfl rfl rfl ?_
    refine lx_move rfl rfl rfl ?_
    refine lx_is rfl rfl Try.underlying27 Try.sizeOf29 ⟨by omega, by omega⟩ rfl rfl ?_
    rw [show 0 + ((i : Nat) : Int).toNat * 48 = i * 48 from by omega]
    refine lx_slarr0 rfl Try.underlying29 Try.sizeOf5 (by decide) rfl rfl ?_
    refine lx_move rfl rfl rfl ?_
    refine lx_callW gt_low (M := fun k => k = rb) (fun k _ => Nat.zero_le k) rfl rfl ent80 rfl rfl hGF (Q := fun w1 w2 v => Fr8 w1 w2 v (got bi ei 48) ∧ RdAt 135 S w2 rb (lft bi ei 48) (err bi ei 48)) (fun w1 h1 g1 => (rb_calls S rb bi ei 48 (by have := hI.l; omega) w1 g1 (Nat.zero_le _) (hrS.grow h1)).mono fun e2 w2 ⟨v, q1, q2, q3, q4⟩ => ⟨_, q1, q2, q3, q4⟩) (fun w1 w2 v hg1 hm1 g2 hv => ?_)
    have hGF : BOk Gt (pl w2) := gt_low.plain g2
    obtain ⟨⟨a2, c2, rfl, hs2, hn2⟩, hR⟩ := hv
    have hd2 := hm1.own (hd.grow hg1) h7r
    refine lx_cpW (cs := got bi ei 48) gt_low (fun w' h => hGF.g _ _ _ h) (fun w' h => hd2.grow (hp_below h)) (Nat.zero_le _) rfl rfl Try.underlying46 (by kernel_rfl) (Nat.min_eq_left (got_le bi ei 48)).symm (fun w' h => (hs2.grow (hp_below h)).bytes) (fun w' h _ ad e0 h0 => by have := hn2 ad e0; have := hd.lt; have := hg1.size; omega) (by have := got_le bi ei 48; omega) rfl rfl (fun w3a w3 hC3 g3 hm3 hd3 => ?_)
    refine lx_nil ?_
    refine x_plain (E := EE [80]) ?_
    refine lx_bin (v := I (((i + 1 : Nat) : Int))) rfl rfl (fun _ => rfl) (fun _ => (bin_add_i _ _ _ (by unfold inI; omega)).trans (by rfl)) rfl rfl ?_
    refine lx_move rfl rfl rfl ?_
    refine lx_nil ?_
    repeat (refine kblk_n ?_)
    refine kseq_n ?_
    have hm7 : MM (fun k => k = rb) w w3 := ((((hI.m.trans (grow_mm hg1)).trans hm1).trans (grow_mm (hp_below hC3)))).trans' hm3 (fun k hk hlt => by omega)
    have hgl : e = 0 → 48 * n ≤ bs.length → got bi ei 48 = sub bs (48 * i) 48 ∧ lft bi ei 48 = bs.drop (48 * (i + 1)) ∧ err bi ei 48 = 0 := fun h1 h2 => by
      obtain ⟨rfl, rfl⟩ := hI.z h1 h2
      obtain ⟨r1, r2, r3⟩ := rd_k (bs := bs.drop (48 * i)) (m := 48) (by rw [List.length_drop]; omega)
      exact ⟨r1, by rw [r2, List.drop_drop, Nat.mul_succ], r3⟩
    refine ⟨rfl, ⟨(i + 1, w3, lft bi ei 48, err bi ei 48), hlt, g3, hm7, ⟨_, hd3, by rw [lay_length]; exact hdl, fun h1 h2 => ?_⟩, (RdX.mm (RdX.grow ⟨S, hR, hSo⟩ (hp_below hC3)) hm3 (fun h => h7r h.symm) (.inr (Nat.le_trans hBw h7w))), Nat.le_trans (lft_le _ _ _) hI.l, fun h1 h2 => ⟨(hgl h1 h2).2.2, (hgl h1 h2).2.1⟩, fun h => by rw [hI.e h]; exact (rd_e 48 h).2.2⟩, by show n - (i + 1) < n - i; omega, rfl, ⟨rfl, rfl, rfl, rfl, rfl, rfl, trivial⟩⟩
    have h3 := hdt h1 h2
    have hkl := keysOf_fl (bs := bs) (n := i) (by omega)
    have hsl := sub_len (bs := bs) (o := 48 * i) (n := 48) (by omega)
    rw [(hgl h1 h2).1, keysOf_s]
    have h4 := take_layV ((keysOf bs i).flatten.map U8) ((sub bs (48 * i) 48).map U8) d (by rw [hkl, List.length_map, hsl, hdl]; omega) (by rw [hkl]; exact h3)
    rw [hkl, List.length_map, hsl, show i * 48 + 48 = (i + 1) * 48 from by omega] at h4
    exact h4
  · obtain rfl : n = i := by simp at hc; omega
    clear hc
    refine x_exit ?_
    refine x_plain (E := EE [80]) ?_
    refine lx_load (v := pt ob o) rfl Try.isAgg130 (fun w' h => rg0 hqW h 0 _ rfl) rfl rfl ?_
    refine lx_move rfl rfl rfl ?_
    refine lx_nilc rfl rfl rfl ?_
    refine lx_st1W gt_low (fun w' h => hGF.g _ _ _ h) (fun w' h => hoW.grow (hp_below h)) (Nat.zero_le _) rfl rfl Try.sizeOf27 rfl hoc rfl (fun w3a w3 hC3 g3 hm3 ho3 => ?_)
    refine lx_nil ?_
    first | exact kret_none rfl (fun w' hw' => ⟨rfl, b7, bi, ei, ⟨((mm_r hI.m).trans (mm_g (hp_below hC3))).trans ((mm_o hm3).trans (mm_g (hp_below hw'))), ho3.grow (hp_below hw'), ((RdX.mm (RdX.grow ⟨S, hrS, hSo⟩ (hp_below hC3)) hm3 hne (.inl rfl)).grow (hp_below hw'))⟩, hI.e, fun h1 h2 => ⟨(hI.z h1 h2).1, (hI.z h1 h2).2, .inr ⟨b7, d, rfl, ((hm3.own (hd.grow (hp_below hC3)) (by have := ho.lt; omega)).grow (hp_below hw')), hdl, Nat.le_refl _, keysOf_fl h2, by rw [keysOf_fl h2]; exact hdt h1 h2⟩⟩, h7w, hI.l⟩) | exact kend_none rfl (fun w' hw' => ⟨rfl, b7, bi, ei, ⟨((mm_r hI.m).trans (mm_g (hp_below hC3))).trans ((mm_o hm3).trans (mm_g (hp_below hw'))), ho3.grow (hp_below hw'), ((RdX.mm (RdX.grow ⟨S, hrS, hSo⟩ (hp_below hC3)) hm3 hne (.inl rfl)).grow (hp_below hw'))⟩, hI.e, fun h1 h2 => ⟨(hI.z h1 h2).1, (hI.z h1 h2).2, .inr ⟨b7, d, rfl, ((hm3.own (hd.grow (hp_below hC3)) (by have := ho.lt; omega)).grow (hp_below hw')), hdl, Nat.le_refl _, keysOf_fl h2, by rw [keysOf_fl h2]; exact hdt h1 h2⟩⟩, h7w, hI.l⟩)
theorem Fd.entR (f : Fd) : Enters Try.prog f.rf := by
  obtain ⟨⟨k, p, n⟩, q, r, c⟩ := f
  rcases k with _ | _ | _ | k
  · exact ent74
  · exact ent79
  · exact ent85
  · exact ent82
/-- What a field is read as, of bytes that begin with its own. -/
def Sp.Val (s : Sp) (z0 : Nat) (w : World) (bs : By) (vs : List Value) : Prop := match s.k with
  | 0 => vs = [U64 (pn (bs.take 8) 8)]
  | 1 => vs = (bs.take s.n).map U8
  | 2 => ∃ a c, vs = [.slice a (bt (bs.take (szB s.n)) s.n).length c] ∧ SlV 4 w a c ((bt (bs.take (szB s.n)) s.n).map .bool) ∧ ∀ ad, a = some ad → z0 ≤ ad.block
  | _ => ∃ a c, vs = [.slice a s.n c] ∧ SlW 29 48 w a c s.n ((keysOf bs s.n).flatten.map U8) ∧ ∀ k, Of a k → z0 ≤ k
def Sp.Good (s : Sp) (bs : By) : Prop := s.k = 2 → cleanB (bs.take (szB s.n)) s.n = true
theorem Sp.Val.mm {s : Sp} {z0 : Nat} {w w' : World} {M : Nat → Prop} {bs : By} {vs : List Value} (h : s.Val z0 w bs vs) (hm : MM M w w') (hM : ∀ k, M k → k < z0) : s.Val z0 w' bs vs := by
  obtain ⟨k, p, n⟩ := s
  rcases k with _ | _ | _ | k
  · exact h
  · exact h
  · obtain ⟨a, c, h1, h2, h3⟩ := h
    exact ⟨a, c, h1, h2.mm hm (fun ad e h0 => by have := hM _ h0; have := h3 ad e; omega), h3⟩
  · obtain ⟨a, c, h1, h2, h3⟩ := h
    exact ⟨a, c, h1, h2.mm hm (fun k hk h0 => by have := hM _ h0; have := h3 k hk; omega), h3⟩
theorem Sp.Val.low {s : Sp} {z0 z1 : Nat} {w : World} {bs : By} {vs : List Value} (h : s.Val z0 w bs vs) (hz : z1 ≤ z0) : s.Val z1 w bs vs := by
  obtain ⟨k, p, n⟩ := s
  rcases k with _ | _ | _ | k
  · exact h
  · exact h
  · obtain ⟨a, c, h1, h2, h3⟩ := h
    exact ⟨a, c, h1, h2, fun ad e => Nat.le_trans hz (h3 ad e)⟩
  · obtain ⟨a, c, h1, h2, h3⟩ := h
    exact ⟨a, c, h1, h2, fun k hk => Nat.le_trans hz (h3 k hk)⟩
theorem Sp.Val.one {s : Sp} {z0 : Nat} {w : World} {bs : By} {vs : List Value} (h : s.Val z0 w bs vs) : vs.all (·.oneCell') = true := by
  obtain ⟨k, p, n⟩ := s
  rcases k with _ | _ | _ | k
  · obtain rfl := h; rfl
  · obtain rfl := h; exact one_u8 _
  · obtain ⟨a, c, rfl, _⟩ := h; rfl
  · obtain ⟨a, c, rfl, _⟩ := h; rfl
theorem lay_one (o : Nat) (v : Value) (c : List Value) : c.set o v = lay o [v] c := rfl
/-- A field read where all is well so far. -/
theorem rd_good (f : Fd) (B ob rb : Nat) (hne : rb ≠ ob) (hqr : f.q ≠ rb) (hqo : f.q ≠ ob) (t : TypeId) (c : List Value) (hoc : f.s.o + f.s.l ≤ c.length) (hn : f.s.n ≤ 1000) (bs : By) (hl : bs.length ≤ 100000) (w : World) (hw : Gt w) (hk : f.Ok ob w) (hBw : B ≤ w.heap.size) (ho : OwnB w ob c t) (hz : f.s.z ≤ bs.length) (hr : RdX ob B w rb bs 0) : Calls Try.prog f.rf ([pt rb 0] ++ f.rc).toArray w (fun x w' => x = .returned (.tuple #[]) ∧ MM (fun k => k = rb ∨ k = ob) w w' ∧ ∃ c', OwnB w' ob c' t ∧ c'.length = c.length ∧ (f.s.Good bs → (∃ vs, vs.length = f.s.l ∧ c' = lay f.s.o vs c ∧ f.s.Val w.heap.size w' bs vs) ∧ RdX ob B w' rb (bs.drop f.s.z) 0) ∧ (¬ f.s.Good bs → ∃ b', b'.length ≤ 100000 ∧ RdX ob B w' rb b' 171)) := by
  obtain ⟨⟨k, p, n⟩, q, r, cc⟩ := f
  rcases k with _ | _ | _ | k
  · obtain ⟨r1, r2, r3⟩ := rd_k (bs := bs) (m := 8) hz
    refine (rnum_c B ob p q rb hne hqr hqo t c hoc bs 0 w hw ho hk hr).mono fun x w' ⟨h1, h2⟩ => ⟨h1, h2.m, _, h2.c, List.length_set .., fun _ => ⟨⟨_, rfl, lay_one _ _ _, ?_⟩, ?_⟩, fun h => absurd (fun h0 => by cases h0) h⟩
    · rw [r1, List.length_take, Nat.min_eq_left (show 8 ≤ bs.length from hz)]; rfl
    · have := h2.r
      rw [r2, r3] at this
      exact this
  · obtain ⟨r1, r2, r3⟩ := rd_k (bs := bs) (m := n) hz
    refine (roct_c B ob p q rb hne hqr hqo t c n cc hoc bs 0 hl w hw ho hk.1 hr).mono fun x w' ⟨h1, h2⟩ => ⟨h1, h2.m, _, h2.c, lay_length .., fun _ => ⟨⟨_, ?_, rfl, ?_⟩, ?_⟩, fun h => absurd (fun h0 => by cases h0) h⟩
    · rw [r1, List.length_map, List.length_take]; exact Nat.min_eq_left hz
    · rw [r1]; rfl
    · have := h2.r
      rw [r2, r3] at this
      exact this
  · have hz' : szB n ≤ bs.length := hz
    refine (rbit_c B ob p q rb hne hqr hqo t c hoc n r hn bs 0 hl w hw ho hk.1 hk.2 hr).mono fun x w' ⟨h1, a2, c2, h2, h3, h4⟩ => ⟨h1, h2.m, _, h2.c, List.length_set .., fun hg => ?_, fun hg => ?_⟩
    · have hc := hg rfl
      have r1 : gotB bs 0 n = bt (bs.take (szB n)) n := by rw [gotB, if_pos ⟨rfl, hz', hc⟩]
      have r2 : lftB bs 0 n = bs.drop (szB n) := by rw [lftB, if_pos ⟨rfl, hz', hc⟩]
      have r3 : errB bs 0 n = 0 := by rw [errB, if_pos rfl, if_neg (by omega), show cleanB (bs.take (szB n)) n = true from hc]; rfl
      have h5 := h2.r
      rw [r1] at h3
      rw [r2, r3] at h5
      exact ⟨⟨_, rfl, lay_one _ _ _, a2, c2, by rw [r1], h3, h4⟩, h5⟩
    · have hc : cleanB (bs.take (szB n)) n = false := by
        cases h : cleanB (bs.take (szB n)) n with
        | false => rfl
        | true => exact absurd (fun _ => h) hg
      have r2 : lftB bs 0 n = bs := by rw [lftB, if_neg (fun h => by rw [hc] at h; cases h.2.2)]
      have r3 : errB bs 0 n = 171 := by rw [errB, if_pos rfl, if_neg (by omega), hc]; rfl
      have h5 := h2.r
      rw [r2, r3] at h5
      exact ⟨bs, hl, h5⟩
  · have hz' : 48 * n ≤ bs.length := by have : n * 48 ≤ bs.length := hz; omega
    refine (rkey_c B ob p q rb hne hqr t c hoc n r hn bs 0 hl w hw ho hBw hk.1 hk.2 hr).mono fun x w' ⟨h1, b7, bi, ei, h2, _, h3, h4, _⟩ => ⟨h1, h2.m, _, h2.c, List.length_set .., fun _ => ?_, fun h => absurd (fun h0 => by cases h0) h⟩
    obtain ⟨rfl, rfl, h5⟩ := h3 rfl hz'
    refine ⟨⟨_, rfl, lay_one _ _ _, _, _, rfl, h5, fun k ⟨ad, e, hk⟩ => by cases e; subst hk; exact h4⟩, ?_⟩
    have := h2.r
    rw [Nat.mul_comm] at this
    exact this
/-- A field read behind a failure. -/
theorem rd_bad (f : Fd) (B ob rb : Nat) (hne : rb ≠ ob) (hqr : f.q ≠ rb) (hqo : f.q ≠ ob) (t : TypeId) (c : List Value) (hoc : f.s.o + f.s.l ≤ c.length) (hn : f.s.n ≤ 1000) (bs : By) (hl : bs.length ≤ 100000) (w : World) (hw : Gt w) (hk : f.Ok ob w) (hBw : B ≤ w.heap.size) (ho : OwnB w ob c t) (hr : RdX ob B w rb bs 171) : Calls Try.prog f.rf ([pt rb 0] ++ f.rc).toArray w (fun x w' => x = .returned (.tuple #[]) ∧ MM (fun k => k = rb ∨ k = ob) w w' ∧ ∃ c', OwnB w' ob c' t ∧ c'.length = c.length ∧ ∃ b', b'.length ≤ 100000 ∧ RdX ob B w' rb b' 171) := by
  obtain ⟨⟨k, p, n⟩, q, r, cc⟩ := f
  rcases k with _ | _ | _ | k
  · obtain ⟨r1, r2, r3⟩ := rd_e (bs := bs) (e := 171) 8 (by decide)
    exact (rnum_c B ob p q rb hne hqr hqo t c hoc bs 171 w hw ho hk hr).mono fun x w' ⟨h1, h2⟩ => ⟨h1, h2.m, _, h2.c, List.length_set .., bs, hl, by have := h2.r; rw [r2, r3] at this; exact this⟩
  · obtain ⟨r1, r2, r3⟩ := rd_e (bs := bs) (e := 171) n (by decide)
    exact (roct_c B ob p q rb hne hqr hqo t c n cc hoc bs 171 hl w hw ho hk.1 hr).mono fun x w' ⟨h1, h2⟩ => ⟨h1, h2.m, _, h2.c, lay_length .., bs, hl, by have := h2.r; rw [r2, r3] at this; exact this⟩
  · refine (rbit_c B ob p q rb hne hqr hqo t c hoc n r hn bs 171 hl w hw ho hk.1 hk.2 hr).mono fun x w' ⟨h1, a2, c2, h2, h3, h4⟩ => ⟨h1, h2.m, _, h2.c, List.length_set .., bs, hl, ?_⟩
    have r2 : lftB bs 171 n = bs := by rw [lftB, if_neg (fun h => absurd h.1 (by decide))]
    have r3 : errB bs 171 n = 171 := by rw [errB, if_neg (by decide)]
    have h5 := h2.r
    rw [r2, r3] at h5
    exact h5
  · refine (rkey_c B ob p q rb hne hqr t c hoc n r hn bs 171 hl w hw ho hBw hk.1 hk.2 hr).mono fun x w' ⟨h1, b7, bi, ei, h2, h3, _, _, h4⟩ => ⟨h1, h2.m, _, h2.c, List.length_set .., bi, ?_, ?_⟩
    · exact h4
    · have := h2.r
      rw [h3 (by decide)] at this
      exact this
end Go.Proofs.Ytlaanjcnfindnaa
