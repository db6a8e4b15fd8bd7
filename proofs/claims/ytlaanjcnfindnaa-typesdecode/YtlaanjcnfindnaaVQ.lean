/-
  What a decoder answers, by one form; the law of decoding.
-/
import Derived.Test.YtlaanjcnfindnaaVO
namespace Go.Proofs.Ytlaanjcnfindnaa
open Go.RowKit
set_option maxRecDepth 100000
set_option maxHeartbeats 1000000

theorem flat_at : ∀ (l : List By) {s : Nat}, (∀ r ∈ l, r.length = s) → ∀ i r, l[i]? = some r → ∀ j v, (r.map U8)[j]? = some v → (l.flatten.map U8)[i * s + j]? = some v
  | [], _, _, i, r, hr, _, _, _ => by simp at hr
  | x :: l, s, hl, 0, r, hr, j, v, hv => by
    simp at hr
    subst hr
    rw [List.flatten_cons, List.map_append, List.getElem?_append_left (by have := (List.getElem?_eq_some_iff.1 hv).1; omega), Nat.zero_mul, Nat.zero_add]
    exact hv
  | x :: l, s, hl, i + 1, r, hr, j, v, hv => by
    have hx : x.length = s := hl x List.mem_cons_self
    have := flat_at l (fun r h => hl r (List.mem_cons_of_mem _ h)) i r (by simpa using hr) j v hv
    rw [List.flatten_cons, List.map_append, List.getElem?_append_right (by rw [List.length_map, hx, Nat.succ_mul]; omega), List.length_map, hx, show (i + 1) * s + j - s = i * s + j from by rw [Nat.succ_mul]; omega]
    exact this
theorem rws_of {w : World} {ka : Option Addr} {kc m : Nat} {l : List By} (h : SlW 29 48 w ka kc m (l.flatten.map U8)) (hl : ∀ r ∈ l, r.length = 48) : RwsAt 48 w ka l := fun i r hr => by
  have h48 := hl r (List.mem_of_getElem? hr)
  have h0 : l.flatten.map U8 ≠ [] := fun e => by
    have := flat_at l hl i r hr 0 (U8 (r[0]'(by omega))) (by simp [List.getElem?_eq_getElem (show 0 < r.length by omega)])
    rw [e] at this
    simp at this
  obtain ⟨b, e, hb⟩ := h.at h0
  refine ⟨_, e, fun j v hv => ?_⟩
  have := hb _ v (flat_at l hl i r hr j v hv)
  rw [Addr.add_mid, Addr.add_mid, Nat.add_assoc]
  exact this
theorem slw_le {w : World} {e : TypeId} {s : Nat} {a : Option Addr} {cap n : Nat} {xs : List Value} (h : SlW e s w a cap n xs) : n ≤ cap := by
  rcases h with ⟨_, _, h1, h2⟩ | ⟨_, _, _, _, _, h, _⟩
  · omega
  · exact h
theorem rws_nil (w : World) (a : Option Addr) : RwsAt 48 w a [] := fun i r h => by simp at h
def UR (U : Up) (c : Int) (w' : World) (v : Value) : Prop := ∃ ka kc ba bc, v = .tuple #[.agg (U.re ka kc ba bc).cs.toArray, I c] ∧ RwsAt 48 w' ka U.nx.ks ∧ CellsAt w' ba (U.sy.bs.map .bool) ∧ U.nx.ks.length ≤ kc
def BR (B : Bo) (c : Int) (w' : World) (v : Value) : Prop := ∃ ka kc, v = .tuple #[.agg (B.re ka kc).cs.toArray, I c] ∧ RwsAt 48 w' ka B.nw.ks ∧ B.nw.ks.length ≤ kc
structure Up.Fit (u : Up) : Prop where
  ok : u.Ok
  n : u.nx.ks.length ≤ 1000
  m : u.sy.bs.length ≤ 1000
structure Bo.Fit (b : Bo) : Prop where
  ok : b.Ok
  n : b.nw.ks.length ≤ 1000
def Uz : Up := ⟨Hd0, ⟨[], none, 0, Z48⟩, Zs 160, Hd0, Zs 192, ⟨[], none, 0, Z96⟩, 0⟩
theorem Uz_fit : Uz.Fit := ⟨⟨Hd0_ok, ⟨fun _ h => (by cases h), rfl, Nat.le_refl _⟩, rfl, Hd0_ok, rfl, ⟨rfl⟩⟩, Nat.zero_le _, Nat.zero_le _⟩
theorem Uz_ur {w : World} {c : Int} : UR Uz c w (.tuple #[.agg U0.toArray, I c]) := ⟨none, 0, none, 0, rfl, rws_nil _ _, cells_nil _ _, Nat.le_refl _⟩
theorem Bo0_fit : Bo0.Fit := ⟨⟨Hd0_ok, ⟨fun _ h => (by cases h), rfl, Nat.le_refl _⟩, rfl⟩, Nat.zero_le _⟩
theorem Bo0_br {w : World} {c : Int} : BR Bo0 c w (.tuple #[.agg Bo0.cs.toArray, I c]) := ⟨none, 0, rfl, rws_nil _ _, Nat.le_refl _⟩
theorem Up.one (u : Up) : u.cs.all (·.oneCell') = true := UC_one (Hd.one _) (CoC_one _ _ _ _) (one_u8 _) (Hd.one _) (one_u8 _) (CoC_one _ _ _ _) rfl
theorem Bo.one (b : Bo) : b.cs.all (·.oneCell') = true := by
  rw [Bo.cs, List.all_append, List.all_append, Hd.one, one_u8, show b.nw.cs.all (·.oneCell') = true from CoC_one _ _ _ _]; rfl
def u1Of (bs : By) (m : Nat) : Up := ⟨hdOf bs, ⟨keysOf (bs.drop 112) m, none, m, sub (bs.drop 112) (48 * m) 48⟩, sub bs (160 + 48 * m) (32 * 5), hdOf (bs.drop (320 + 48 * m)), sub bs (432 + 48 * m) (32 * 6), ⟨bt (sub bs (624 + 48 * m) (szB m)) m, none, 0, sub bs (624 + 48 * m + szB m) 96⟩, pn (sub bs (624 + 48 * m + szB m + 96) 8) 8⟩
def u2Of (bs : By) (m : Nat) : Up := ⟨hdOf bs, ⟨[], none, 0, Z48⟩, Zs 160, hdOf (bs.drop 112), sub bs 224 (32 * 6), ⟨bt (sub bs (416) (szB m)) m, none, 0, sub bs (416 + szB m) 96⟩, pn (sub bs (416 + szB m + 96) 8) 8⟩
def u3Of (bs : By) (m : Nat) : Up := ⟨hdOf bs, ⟨[], none, 0, Z48⟩, Zs 160, Hd0, Zs 192, ⟨bt (sub bs (112) (szB m)) m, none, 0, sub bs (112 + szB m) 96⟩, pn (sub bs (112 + szB m + 96) 8) 8⟩
theorem u1_fit {bs : By} {m : Nat} (h : bs.length = sz2 m) (hm : m ≤ 1000) : (u1Of bs m).Fit :=
  ⟨⟨hdOf_ok (by simp only [sz2, szB] at h ⊢; omega), ⟨keysOf_all (by rw [List.length_drop]; simp only [sz2, szB] at h ⊢; omega), sub_len (by rw [List.length_drop]; simp only [sz2, szB] at h ⊢; omega), Nat.le_of_eq (keysOf_len _ _)⟩, sub_len (by simp only [sz2, szB] at h ⊢; omega), hdOf_ok (by rw [List.length_drop]; simp only [sz2, szB] at h ⊢; omega), sub_len (by simp only [sz2, szB] at h ⊢; omega), ⟨sub_len (by simp only [sz2, szB] at h ⊢; omega)⟩⟩, by show (keysOf _ _).length ≤ 1000; rw [keysOf_len]; omega, by show (bt _ _).length ≤ 1000; rw [bt_len]; exact hm⟩
theorem d1_ur (bs : By) (m : Nat) (hm : m ≤ 1000) : ∃ U c, U.Fit ∧ (c = 0 → U = u1Of bs m ∧ bs.length = sz2 m ∧ cleanB (sub bs (624 + 48 * m) (szB m)) m = true) ∧ ∀ (w w' : World) (e : Ending), (Grow w w' ∧ (bs.length = sz2 m → cleanB (sub bs (624 + 48 * m) (szB m)) m = true → ∃ ka kc, SlW 29 48 w' ka kc m ((keysOf (bs.drop 112) m).flatten.map U8) ∧ (∀ k, Of ka k → w.heap.size ≤ k) ∧ ∃ ba bc, e = .returned (.tuple #[.agg (UC (hdOf bs).cs (Value.slice ka m kc :: (sub (bs.drop 112) (48 * m) 48).map U8) ((sub bs (160 + 48 * m) (32 * 5)).map U8) (hdOf (bs.drop (320 + 48 * m))).cs ((sub bs (432 + 48 * m) (32 * 6)).map U8) (Value.slice ba (bt (sub bs (624 + 48 * m) (szB m)) m).length bc :: (sub bs (624 + 48 * m + szB m) 96).map U8) [U64 (pn (sub bs (624 + 48 * m + szB m + 96) 8) 8)]).toArray, I 0]) ∧ SlV 4 w' ba bc ((bt (sub bs (624 + 48 * m) (szB m)) m).map .bool) ∧ ∀ ad, ba = some ad → w.heap.size ≤ ad.block) ∧ (bs.length = sz2 m → cleanB (sub bs (624 + 48 * m) (szB m)) m = false → e = .returned (.tuple #[.agg U0.toArray, I 171])) ∧ (¬ bs.length = sz2 m → e = .returned (.tuple #[.agg U0.toArray, I 170]))) → Grow w w' ∧ ∃ v, e = .returned v ∧ UR U c w' v := by
  by_cases h : bs.length = sz2 m
  · rcases Bool.eq_false_or_eq_true (cleanB (sub bs (624 + 48 * m) (szB m)) m) with hc | hc
    · exact ⟨u1Of bs m, 0, u1_fit h hm, fun _ => ⟨rfl, h, hc⟩, fun w w' e ⟨hg, h1, _, _⟩ => by
        obtain ⟨ka, kc, hs, _, ba, bc, rfl, hb, _⟩ := h1 h hc
        exact ⟨hg, _, rfl, ka, kc, ba, bc, by simp only [Up.re, Up.cs, Co.cs, Ag.cs, u1Of, keysOf_len, UC], rws_of hs (u1_fit h hm).ok.nx.ks, hb.cells, by show (keysOf _ _).length ≤ kc; rw [keysOf_len]; exact slw_le hs⟩⟩
    · exact ⟨Uz, 171, Uz_fit, (fun h => absurd h (by decide)), fun w w' e ⟨hg, _, h2, _⟩ => ⟨hg, _, h2 h hc, Uz_ur⟩⟩
  · exact ⟨Uz, 170, Uz_fit, (fun h => absurd h (by decide)), fun w w' e ⟨hg, _, _, h3⟩ => ⟨hg, _, h3 h, Uz_ur⟩⟩
theorem u2_fit {bs : By} {m : Nat} (h : bs.length = sz3 m) (hm : m ≤ 1000) : (u2Of bs m).Fit :=
  ⟨⟨hdOf_ok (by simp only [sz3, szB] at h ⊢; omega), ⟨fun _ h => (by cases h), rfl, Nat.le_refl _⟩, rfl, hdOf_ok (by rw [List.length_drop]; simp only [sz3, szB] at h ⊢; omega), sub_len (by simp only [sz3, szB] at h ⊢; omega), ⟨sub_len (by simp only [sz3, szB] at h ⊢; omega)⟩⟩, Nat.zero_le _, by show (bt _ _).length ≤ 1000; rw [bt_len]; exact hm⟩
theorem d2_ur (bs : By) (m : Nat) (hm : m ≤ 1000) : ∃ U c, U.Fit ∧ (c = 0 → U = u2Of bs m ∧ bs.length = sz3 m ∧ cleanB (sub bs (416) (szB m)) m = true) ∧ ∀ (w w' : World) (e : Ending), (Grow w w' ∧ (bs.length = sz3 m → cleanB (sub bs (416) (szB m)) m = true → ∃ ba bc, e = .returned (.tuple #[.agg (UC (hdOf bs).cs Co0 ((Zs 160).map U8) (hdOf (bs.drop (112))).cs ((sub bs (224) (32 * 6)).map U8) (Value.slice ba (bt (sub bs (416) (szB m)) m).length bc :: (sub bs (416 + szB m) 96).map U8) [U64 (pn (sub bs (416 + szB m + 96) 8) 8)]).toArray, I 0]) ∧ SlV 4 w' ba bc ((bt (sub bs (416) (szB m)) m).map .bool) ∧ ∀ ad, ba = some ad → w.heap.size ≤ ad.block) ∧ (bs.length = sz3 m → cleanB (sub bs (416) (szB m)) m = false → e = .returned (.tuple #[.agg U0.toArray, I 171])) ∧ (¬ bs.length = sz3 m → e = .returned (.tuple #[.agg U0.toArray, I 170]))) → Grow w w' ∧ ∃ v, e = .returned v ∧ UR U c w' v := by
  by_cases h : bs.length = sz3 m
  · rcases Bool.eq_false_or_eq_true (cleanB (sub bs (416) (szB m)) m) with hc | hc
    · exact ⟨u2Of bs m, 0, u2_fit h hm, fun _ => ⟨rfl, h, hc⟩, fun w w' e ⟨hg, h1, _, _⟩ => by
        obtain ⟨ba, bc, rfl, hb, _⟩ := h1 h hc
        exact ⟨hg, _, rfl, none, 0, ba, bc, rfl, rws_nil _ _, hb.cells, Nat.le_refl _⟩⟩
    · exact ⟨Uz, 171, Uz_fit, (fun h => absurd h (by decide)), fun w w' e ⟨hg, _, h2, _⟩ => ⟨hg, _, h2 h hc, Uz_ur⟩⟩
  · exact ⟨Uz, 170, Uz_fit, (fun h => absurd h (by decide)), fun w w' e ⟨hg, _, _, h3⟩ => ⟨hg, _, h3 h, Uz_ur⟩⟩
theorem u3_fit {bs : By} {m : Nat} (h : bs.length = sz4 m) (hm : m ≤ 1000) : (u3Of bs m).Fit :=
  ⟨⟨hdOf_ok (by simp only [sz4, szB] at h ⊢; omega), ⟨fun _ h => (by cases h), rfl, Nat.le_refl _⟩, rfl, Hd0_ok, rfl, ⟨sub_len (by simp only [sz4, szB] at h ⊢; omega)⟩⟩, Nat.zero_le _, by show (bt _ _).length ≤ 1000; rw [bt_len]; exact hm⟩
theorem d3_ur (bs : By) (m : Nat) (hm : m ≤ 1000) : ∃ U c, U.Fit ∧ (c = 0 → U = u3Of bs m ∧ bs.length = sz4 m ∧ cleanB (sub bs (112) (szB m)) m = true) ∧ ∀ (w w' : World) (e : Ending), (Grow w w' ∧ (bs.length = sz4 m → cleanB (sub bs (112) (szB m)) m = true → ∃ ba bc, e = .returned (.tuple #[.agg (UC (hdOf bs).cs Co0 ((Zs 160).map U8) Hd0.cs ((Zs 192).map U8) (Value.slice ba (bt (sub bs (112) (szB m)) m).length bc :: (sub bs (112 + szB m) 96).map U8) [U64 (pn (sub bs (112 + szB m + 96) 8) 8)]).toArray, I 0]) ∧ SlV 4 w' ba bc ((bt (sub bs (112) (szB m)) m).map .bool) ∧ ∀ ad, ba = some ad → w.heap.size ≤ ad.block) ∧ (bs.length = sz4 m → cleanB (sub bs (112) (szB m)) m = false → e = .returned (.tuple #[.agg U0.toArray, I 171])) ∧ (¬ bs.length = sz4 m → e = .returned (.tuple #[.agg U0.toArray, I 170]))) → Grow w w' ∧ ∃ v, e = .returned v ∧ UR U c w' v := by
  by_cases h : bs.length = sz4 m
  · rcases Bool.eq_false_or_eq_true (cleanB (sub bs (112) (szB m)) m) with hc | hc
    · exact ⟨u3Of bs m, 0, u3_fit h hm, fun _ => ⟨rfl, h, hc⟩, fun w w' e ⟨hg, h1, _, _⟩ => by
        obtain ⟨ba, bc, rfl, hb, _⟩ := h1 h hc
        exact ⟨hg, _, rfl, none, 0, ba, bc, rfl, rws_nil _ _, hb.cells, Nat.le_refl _⟩⟩
    · exact ⟨Uz, 171, Uz_fit, (fun h => absurd h (by decide)), fun w w' e ⟨hg, _, h2, _⟩ => ⟨hg, _, h2 h hc, Uz_ur⟩⟩
  · exact ⟨Uz, 170, Uz_fit, (fun h => absurd h (by decide)), fun w w' e ⟨hg, _, _, h3⟩ => ⟨hg, _, h3 h, Uz_ur⟩⟩
theorem dB_br (bs : By) (m : Nat) (hm : m ≤ 1000) : ∃ B c, B.Fit ∧ (c = 0 → B = boOf bs m none m ∧ bs.length = sz1 m) ∧ ∀ (w w' : World) (e : Ending), (Grow w w' ∧ (bs.length = sz1 m → ∃ ka kc, e = .returned (.tuple #[.agg (boOf bs m ka kc).cs.toArray, I 0]) ∧ SlW 29 48 w' ka kc m ((keysOf (bs.drop 112) m).flatten.map U8) ∧ ∀ k, Of ka k → w.heap.size ≤ k) ∧ (¬ bs.length = sz1 m → e = .returned (.tuple #[.agg Bo0.cs.toArray, I 170]))) → Grow w w' ∧ ∃ v, e = .returned v ∧ BR B c w' v := by
  by_cases h : bs.length = sz1 m
  · exact ⟨boOf bs m none m, 0, ⟨boOf_ok h (Nat.le_refl _), by show (keysOf _ _).length ≤ 1000; rw [keysOf_len]; exact hm⟩, fun _ => ⟨rfl, h⟩, fun w w' e ⟨hg, h1, _⟩ => by
      obtain ⟨ka, kc, rfl, hs, _⟩ := h1 h
      exact ⟨hg, _, rfl, ka, kc, rfl, rws_of hs (boOf_ok (ka := none) h (Nat.le_refl m)).nw.ks, by show (keysOf _ _).length ≤ kc; rw [keysOf_len]; exact slw_le hs⟩⟩
  · exact ⟨Bo0, 170, Bo0_fit, (fun h => absurd h (by decide)), fun w w' e ⟨hg, _, h2⟩ => ⟨hg, _, h2 h, Bo0_br⟩⟩
theorem decode_law (hT : TypesP) (hKn : Kn) (n : Int) (bs : By) (a : Option Addr) (cap : Nat) (hcap : bs.length ≤ cap) (w : World) (hw : Gt w) (hby : BytesAt w a bs) (hab : ∀ ad, a = some ad → ad.block < w.heap.size) : Calls Try.prog 4 [.slice a bs.length cap, I n].toArray w (fun e w' => e = .returned (.bool true) ∧ Grow w w') := by
  obtain ⟨B, cB, fB, _, hB⟩ := dB_br bs (szN n) (Nat.le_trans (szN_le n).2 (by decide))
  obtain ⟨U1, c1, f1, _, h1⟩ := d1_ur bs (szN n) (Nat.le_trans (szN_le n).2 (by decide))
  obtain ⟨U2, c2, f2, _, h2⟩ := d2_ur bs (szN n) (Nat.le_trans (szN_le n).2 (by decide))
  obtain ⟨U3, c3, f3, _, h3⟩ := d3_ur bs (szN n) (Nat.le_trans (szN_le n).2 (by decide))
  have hGF : BOk Gt (pl w) := gt_low.plain hw
  refine calls_of_X (G := Gt) Try.func4 rfl rfl (Hp (pl w) []) (hp_refl (pl w) trivial rides_true) (good_hp hGF) ?_
  refine xs_plain (E := EE []) ?_
  refine lx_assign rfl rfl rfl ?_
  refine lx_nil ?_
  refine x_seq ?_
  refine xs_plain (E := EE []) ?_
  refine lx_callC rfl rfl ent9 (fun w1 _ hG => hKn w1 hG) rfl rfl ?_
  refine lx_un rfl (fun _ => un_not _) rfl rfl ?_
  refine lx_nil ?_
  refine x_false rfl ?_
  refine x_skip ?_
  refine x_seq ?_
  refine xs_plain (E := EE []) ?_
  refine lx_move rfl rfl rfl ?_
  refine lx_len rfl (fun _ => len_slice Try.underlying46 _ _ _ _) rfl rfl ?_
  by_cases hL : 3000 < bs.length
  · skip
    refine lx_binB true rfl rfl (fun _ => rfl) (fun _ => bin_gtr_i _ _ _) (by simp; omega) rfl rfl ?_
    refine lx_nil ?_
    refine x_true rfl ?_
    refine xs_plain (E := EE []) ?_
    refine lx_assign rfl rfl rfl ?_
    refine lx_nil ?_
    refine x_ret ?_
    repeat (first | refine kseq_ret ?_ | refine kblk_ret ?_)
    exact kret_tmp rfl rfl (fun w' hw' => ⟨rfl, (by first | exact hp_below hw' | exact hW.trans (hp_below hw'))⟩)
  · skip
    refine lx_binB false rfl rfl (fun _ => rfl) (fun _ => bin_gtr_i _ _ _) (by simp; omega) rfl rfl ?_
    refine lx_nil ?_
    refine x_false rfl ?_
    refine x_skip ?_
    refine xs_plain (E := EE [20]) ?_
    refine lx_move rfl rfl rfl ?_
    refine lx_callE rfl rfl ent20 rfl rfl (fun w28a hC28 => (cpy_calls bs a cap (by omega) w28a (hGF.g _ _ _ hC28) (hby.grow (hp_below hC28))).mono fun e' w28 h => ?_)
    have hX := hp_below hC28
    obtain ⟨_, rfl, hg28, a28, k28, rfl, hs28s, hn28⟩ := h
    have hle28 : bs.length ≤ k28 := by have := hs28s.le; rwa [List.length_map] at this
    have hW := Grow.refl w
    have hWc := Grow.refl w28
    have hs28 := hX.trans hg28
    have gg28 : Gt w28 := gt_low.same _ _ (fun k hk => absurd hk (Nat.not_lt_zero k)) (hGF.g _ _ _ hC28)
    have hW := hW.trans hs28
    have hGF := gt_low.plain gg28
    refine ⟨_, _, rfl, good_hp hGF, hp_refl (pl w28) trivial rides_true, ?_⟩
    clear hX
    refine lx_assign rfl rfl rfl ?_
    refine lx_nil ?_
    refine xs_plain (E := EE [21]) ?_
    refine lx_move rfl rfl rfl ?_
    refine lx_move rfl rfl rfl ?_
    refine lx_callE rfl rfl ent21 rfl rfl (fun w32a hC32 => (hT.decB n _ rfl bs a28 k28 hle28 (by omega) w32a (hGF.g _ _ _ hC32) (hs28s.grow (hWc.trans (hp_below hC32))).bytes (fun ad e => (hs28s.grow (hWc.trans (hp_below hC32))).lt ad e)).mono fun e' w32 h => ?_)
    have hX := hp_below hC32
    obtain ⟨hg32, _, rfl, ka32, kc32, rfl, hr32, hk32⟩ := hB _ _ _ h
    have hs32 := hX.trans hg32
    have gg32 : Gt w32 := gt_low.same _ _ (fun k hk => absurd hk (Nat.not_lt_zero k)) (hGF.g _ _ _ hC32)
    have hW := hW.trans hs32
    have hWc := hWc.trans hs32
    have hGF := gt_low.plain gg32
    refine ⟨_, _, rfl, good_hp hGF, hp_refl (pl w32) trivial rides_true, ?_⟩
    clear hX
    refine lx_move rfl rfl rfl ?_
    refine lx_ext rfl rfl rfl rfl ?_
    refine lx_ext rfl rfl rfl rfl ?_
    refine lx_allocr 6 hGF zvBo rfl rfl ?_
    intro b6
    refine lx_storea 6 hGF rfl rfl rfl Try.sizeOf42 (Bo.len (Bo.re_ok fB.ok hk32)) Bo0_len (Bo.one _) rfl ?_
    refine lx_assign rfl rfl rfl ?_
    refine lx_nil ?_
    refine xs_plain (E := EE [22]) ?_
    refine lx_move rfl rfl rfl ?_
    refine lx_move rfl rfl rfl ?_
    refine lx_callE rfl rfl ent22 rfl rfl (fun w38a hC38 => (dbo_calls n _ rfl bs a cap hcap w38a (hGF.g _ _ _ hC38) (hby.grow (hW.trans (hp_below hC38))) (fun ad e => Nat.lt_of_lt_of_le (hab ad e) (hW.trans (hp_below hC38)).size)).mono fun e' w38 h => ?_)
    have hX := hp_below hC38
    obtain ⟨hg38, _, rfl, ka38, kc38, rfl, hr38, hk38⟩ := hB _ _ _ h
    have hs38 := hX.trans hg38
    have gg38 : Gt w38 := gt_low.same _ _ (fun k hk => absurd hk (Nat.not_lt_zero k)) (hGF.g _ _ _ hC38)
    have hq6 := range_up (hp_row (n := 6) rfl _ hC38) hg38
    have hW := hW.trans hs38
    have hWc := hWc.trans hs38
    have hGF := gt_low.plain gg38
    refine ⟨_, _, rfl, good_hp hGF, hp_refl (pl w38) trivial rides_true, ?_⟩
    clear hX
    refine lx_move rfl rfl rfl ?_
    refine lx_ext rfl rfl rfl rfl ?_
    refine lx_ext rfl rfl rfl rfl ?_
    refine lx_allocr 8 hGF zvBo rfl rfl ?_
    intro b8
    refine lx_storea 8 hGF rfl rfl rfl Try.sizeOf42 (Bo.len (Bo.re_ok fB.ok hk38)) Bo0_len (Bo.one _) rfl ?_
    refine lx_assign rfl rfl rfl ?_
    refine lx_nil ?_
    refine xs_plain (E := EE [23]) ?_
    refine lx_move rfl rfl rfl ?_
    refine lx_move rfl rfl rfl ?_
    refine lx_callE rfl rfl ent23 rfl rfl (fun w44a hC44 => (hT.decU n _ rfl bs a28 k28 hle28 (by omega) w44a (hGF.g _ _ _ hC44) (hs28s.grow (hWc.trans (hp_below hC44))).bytes (fun ad e => (hs28s.grow (hWc.trans (hp_below hC44))).lt ad e)).mono fun e' w44 h => ?_)
    have hX := hp_below hC44
    obtain ⟨hg44, _, rfl, ka44, kc44, ba44, bc44, rfl, hr44, hb44, hk44⟩ := h1 _ _ _ h
    have hs44 := hX.trans hg44
    have gg44 : Gt w44 := gt_low.same _ _ (fun k hk => absurd hk (Nat.not_lt_zero k)) (hGF.g _ _ _ hC44)
    have hq8 := range_up (hp_row (n := 8) rfl _ hC44) hg44
    have hW := hW.trans hs44
    have hWc := hWc.trans hs44
    have hGF := gt_low.plain gg44
    refine ⟨_, _, rfl, good_hp hGF, hp_refl (pl w44) trivial rides_true, ?_⟩
    clear hX
    refine lx_move rfl rfl rfl ?_
    refine lx_ext rfl rfl rfl rfl ?_
    refine lx_ext rfl rfl rfl rfl ?_
    refine lx_allocr 10 hGF zvU rfl rfl ?_
    intro b10
    refine lx_storea 10 hGF rfl rfl rfl Try.sizeOf40 (Up.len (Up.re_ok f1.ok hk44)) U0_len (Up.one _) rfl ?_
    refine lx_assign rfl rfl rfl ?_
    refine lx_nil ?_
    refine xs_plain (E := EE [24]) ?_
    refine lx_move rfl rfl rfl ?_
    refine lx_move rfl rfl rfl ?_
    refine lx_callE rfl rfl ent24 rfl rfl (fun w50a hC50 => (hT.decF n _ rfl bs a28 k28 hle28 (by omega) w50a (hGF.g _ _ _ hC50) (hs28s.grow (hWc.trans (hp_below hC50))).bytes (fun ad e => (hs28s.grow (hWc.trans (hp_below hC50))).lt ad e)).mono fun e' w50 h => ?_)
    have hX := hp_below hC50
    obtain ⟨hg50, _, rfl, ka50, kc50, ba50, bc50, rfl, hr50, hb50, hk50⟩ := h2 _ _ _ h
    have hs50 := hX.trans hg50
    have gg50 : Gt w50 := gt_low.same _ _ (fun k hk => absurd hk (Nat.not_lt_zero k)) (hGF.g _ _ _ hC50)
    have hq10 := range_up (hp_row (n := 10) rfl _ hC50) hg50
    have hW := hW.trans hs50
    have hWc := hWc.trans hs50
    have hGF := gt_low.plain gg50
    refine ⟨_, _, rfl, good_hp hGF, hp_refl (pl w50) trivial rides_true, ?_⟩
    clear hX
    refine lx_move rfl rfl rfl ?_
    refine lx_ext rfl rfl rfl rfl ?_
    refine lx_ext rfl rfl rfl rfl ?_
    refine lx_allocr 12 hGF zvU rfl rfl ?_
    intro b12
    refine lx_storea 12 hGF rfl rfl rfl Try.sizeOf40 (Up.len (Up.re_ok f2.ok hk50)) U0_len (Up.one _) rfl ?_
    refine lx_assign rfl rfl rfl ?_
    refine lx_nil ?_
    refine xs_plain (E := EE [25]) ?_
    refine lx_move rfl rfl rfl ?_
    refine lx_move rfl rfl rfl ?_
    refine lx_callE rfl rfl ent25 rfl rfl (fun w56a hC56 => (hT.decO n _ rfl bs a28 k28 hle28 (by omega) w56a (hGF.g _ _ _ hC56) (hs28s.grow (hWc.trans (hp_below hC56))).bytes (fun ad e => (hs28s.grow (hWc.trans (hp_below hC56))).lt ad e)).mono fun e' w56 h => ?_)
    have hX := hp_below hC56
    obtain ⟨hg56, _, rfl, ka56, kc56, ba56, bc56, rfl, hr56, hb56, hk56⟩ := h3 _ _ _ h
    have hs56 := hX.trans hg56
    have gg56 : Gt w56 := gt_low.same _ _ (fun k hk => absurd hk (Nat.not_lt_zero k)) (hGF.g _ _ _ hC56)
    have hq12 := range_up (hp_row (n := 12) rfl _ hC56) hg56
    have hW := hW.trans hs56
    have hWc := hWc.trans hs56
    have hGF := gt_low.plain gg56
    refine ⟨_, _, rfl, good_hp hGF, hp_refl (pl w56) trivial rides_true, ?_⟩
    clear hX
    refine lx_move rfl rfl rfl ?_
    refine lx_ext rfl rfl rfl rfl ?_
    refine lx_ext rfl rfl rfl rfl ?_
    refine lx_allocr 14 hGF zvU rfl rfl ?_
    intro b14
    refine lx_storea 14 hGF rfl rfl rfl Try.sizeOf40 (Up.len (Up.re_ok f3.ok hk56)) U0_len (Up.one _) rfl ?_
    refine lx_assign rfl rfl rfl ?_
    refine lx_nil ?_
    refine xs_plain (E := EE [26]) ?_
    refine lx_move rfl rfl rfl ?_
    refine lx_move rfl rfl rfl ?_
    refine lx_callE rfl rfl ent26 rfl rfl (fun w62a hC62 => (dec1_calls n _ rfl bs a cap hcap w62a (hGF.g _ _ _ hC62) (hby.grow (hW.trans (hp_below hC62))) (fun ad e => Nat.lt_of_lt_of_le (hab ad e) (hW.trans (hp_below hC62)).size)).mono fun e' w62 h => ?_)
    have hX := hp_below hC62
    obtain ⟨hg62, _, rfl, ka62, kc62, ba62, bc62, rfl, hr62, hb62, hk62⟩ := h1 _ _ _ h
    have hs62 := hX.trans hg62
    have gg62 : Gt w62 := gt_low.same _ _ (fun k hk => absurd hk (Nat.not_lt_zero k)) (hGF.g _ _ _ hC62)
    have hq14 := range_up (hp_row (n := 14) rfl _ hC62) hg62
    have hW := hW.trans hs62
    have hWc := hWc.trans hs62
    have hGF := gt_low.plain gg62
    refine ⟨_, _, rfl, good_hp hGF, hp_refl (pl w62) trivial rides_true, ?_⟩
    clear hX
    refine lx_move rfl rfl rfl ?_
    refine lx_ext rfl rfl rfl rfl ?_
    refine lx_ext rfl rfl rfl rfl ?_
    refine lx_allocr 16 hGF zvU rfl rfl ?_
    intro b16
    refine lx_storea 16 hGF rfl rfl rfl Try.sizeOf40 (Up.len (Up.re_ok f1.ok hk62)) U0_len (Up.one _) rfl ?_
    refine lx_assign rfl rfl rfl ?_
    refine lx_nil ?_
    refine xs_plain (E := EE [26]) ?_
    refine lx_move rfl rfl rfl ?_
    refine lx_move rfl rfl rfl ?_
    refine lx_callE rfl rfl ent26 rfl rfl (fun w68a hC68 => (dec2_calls n _ rfl bs a cap hcap w68a (hGF.g _ _ _ hC68) (hby.grow (hW.trans (hp_below hC68))) (fun ad e => Nat.lt_of_lt_of_le (hab ad e) (hW.trans (hp_below hC68)).size)).mono fun e' w68 h => ?_)
    have hX := hp_below hC68
    obtain ⟨hg68, _, rfl, ka68, kc68, ba68, bc68, rfl, hr68, hb68, hk68⟩ := h2 _ _ _ h
    have hs68 := hX.trans hg68
    have gg68 : Gt w68 := gt_low.same _ _ (fun k hk => absurd hk (Nat.not_lt_zero k)) (hGF.g _ _ _ hC68)
    have hq16 := range_up (hp_row (n := 16) rfl _ hC68) hg68
    have hW := hW.trans hs68
    have hWc := hWc.trans hs68
    have hGF := gt_low.plain gg68
    refine ⟨_, _, rfl, good_hp hGF, hp_refl (pl w68) trivial rides_true, ?_⟩
    clear hX
    refine lx_move rfl rfl rfl ?_
    refine lx_ext rfl rfl rfl rfl ?_
    refine lx_ext rfl rfl rfl rfl ?_
    refine lx_allocr 18 hGF zvU rfl rfl ?_
    intro b18
    refine lx_storea 18 hGF rfl rfl rfl Try.sizeOf40 (Up.len (Up.re_ok f2.ok hk68)) U0_len (Up.one _) rfl ?_
    refine lx_assign rfl rfl rfl ?_
    refine lx_nil ?_
    refine xs_plain (E := EE [26]) ?_
    refine lx_move rfl rfl rfl ?_
    refine lx_move rfl rfl rfl ?_
    refine lx_callE rfl rfl ent26 rfl rfl (fun w74a hC74 => (dec3_calls n _ rfl bs a cap hcap w74a (hGF.g _ _ _ hC74) (hby.grow (hW.trans (hp_below hC74))) (fun ad e => Nat.lt_of_lt_of_le (hab ad e) (hW.trans (hp_below hC74)).size)).mono fun e' w74 h => ?_)
    have hX := hp_below hC74
    obtain ⟨hg74, _, rfl, ka74, kc74, ba74, bc74, rfl, hr74, hb74, hk74⟩ := h3 _ _ _ h
    have hs74 := hX.trans hg74
    have gg74 : Gt w74 := gt_low.same _ _ (fun k hk => absurd hk (Nat.not_lt_zero k)) (hGF.g _ _ _ hC74)
    have hq18 := range_up (hp_row (n := 18) rfl _ hC74) hg74
    have hW := hW.trans hs74
    have hWc := hWc.trans hs74
    have hGF := gt_low.plain gg74
    refine ⟨_, _, rfl, good_hp hGF, hp_refl (pl w74) trivial rides_true, ?_⟩
    clear hX
    refine lx_move rfl rfl rfl ?_
    refine lx_ext rfl rfl rfl rfl ?_
    refine lx_ext rfl rfl rfl rfl ?_
    refine lx_allocr 20 hGF zvU rfl rfl ?_
    intro b20
    refine lx_storea 20 hGF rfl rfl rfl Try.sizeOf40 (Up.len (Up.re_ok f3.ok hk74)) U0_len (Up.one _) rfl ?_
    refine lx_assign rfl rfl rfl ?_
    refine lx_nil ?_
    have hz74 := Grow.refl w74
    have hz68 := hs74.trans hz74
    have hz62 := hs68.trans hz68
    have hz56 := hs62.trans hz62
    have hz50 := hs56.trans hz56
    have hz44 := hs50.trans hz50
    have hz38 := hs44.trans hz44
    have hz32 := hs38.trans hz38
    have hz28 := hs32.trans hz32
    refine xs_plain (E := EE []) ?_
    refine lx_move rfl rfl rfl ?_
    refine lx_move rfl rfl rfl ?_
    refine lx_binB true rfl rfl (fun _ => rfl) (fun _ => bin_eql_i _ _ _) (beq_self_eq_true _) rfl rfl ?_
    refine lx_move rfl rfl rfl ?_
    refine lx_loadr rfl Try.isAgg42 Try.sizeOf42 (Bo.len (Bo.re_ok fB.ok hk32)) (fun w' h => range_up hq6 (hz38.trans (hp_below h))) rfl rfl ?_
    refine lx_loadr rfl Try.isAgg42 Try.sizeOf42 (Bo.len (Bo.re_ok fB.ok hk38)) (fun w' h => range_up hq8 (hz44.trans (hp_below h))) rfl rfl ?_
    refine lx_callC rfl rfl ent27 (fun w1 hC hG => hbo_calls (B.re ka32 kc32) (Bo.re_ok fB.ok hk32) (Nat.le_trans fB.n (by decide)) ka38 kc38 hk38 w1 hG (hr32.grow (hz32.trans (hp_below hC))) (hr38.grow (hz38.trans (hp_below hC)))) rfl rfl ?_
    refine lx_pick rfl rfl rfl rfl rfl ?_
    refine lx_move rfl rfl rfl ?_
    refine lx_move rfl rfl rfl ?_
    refine lx_move rfl rfl rfl ?_
    refine lx_binB true rfl rfl (fun _ => rfl) (fun _ => bin_eql_i _ _ _) (beq_self_eq_true _) rfl rfl ?_
    refine lx_pick rfl rfl rfl rfl rfl ?_
    refine lx_move rfl rfl rfl ?_
    refine lx_loadr rfl Try.isAgg40 Try.sizeOf40 (Up.len (Up.re_ok f1.ok hk44)) (fun w' h => range_up hq10 (hz50.trans (hp_below h))) rfl rfl ?_
    refine lx_loadr rfl Try.isAgg40 Try.sizeOf40 (Up.len (Up.re_ok f1.ok hk62)) (fun w' h => range_up hq16 (hz68.trans (hp_below h))) rfl rfl ?_
    refine lx_callC rfl rfl ent28 (fun w1 hC hG => hup_calls (U1.re ka44 kc44 ba44 bc44) (Up.re_ok f1.ok hk44) (Nat.le_trans f1.n (by decide)) (Nat.le_trans f1.m (by decide)) ka62 kc62 ba62 bc62 hk62 w1 hG (hr44.grow (hz44.trans (hp_below hC))) (hr62.grow (hz62.trans (hp_below hC))) (hb44.grow (hz44.trans (hp_below hC))) (hb62.grow (hz62.trans (hp_below hC)))) rfl rfl ?_
    refine lx_pick rfl rfl rfl rfl rfl ?_
    refine lx_move rfl rfl rfl ?_
    refine lx_move rfl rfl rfl ?_
    refine lx_move rfl rfl rfl ?_
    refine lx_binB true rfl rfl (fun _ => rfl) (fun _ => bin_eql_i _ _ _) (beq_self_eq_true _) rfl rfl ?_
    refine lx_pick rfl rfl rfl rfl rfl ?_
    refine lx_move rfl rfl rfl ?_
    refine lx_loadr rfl Try.isAgg40 Try.sizeOf40 (Up.len (Up.re_ok f2.ok hk50)) (fun w' h => range_up hq12 (hz56.trans (hp_below h))) rfl rfl ?_
    refine lx_loadr rfl Try.isAgg40 Try.sizeOf40 (Up.len (Up.re_ok f2.ok hk68)) (fun w' h => range_up hq18 (hz74.trans (hp_below h))) rfl rfl ?_
    refine lx_callC rfl rfl ent28 (fun w1 hC hG => hup_calls (U2.re ka50 kc50 ba50 bc50) (Up.re_ok f2.ok hk50) (Nat.le_trans f2.n (by decide)) (Nat.le_trans f2.m (by decide)) ka68 kc68 ba68 bc68 hk68 w1 hG (hr50.grow (hz50.trans (hp_below hC))) (hr68.grow (hz68.trans (hp_below hC))) (hb50.grow (hz50.trans (hp_below hC))) (hb68.grow (hz68.trans (hp_below hC)))) rfl rfl ?_
    refine lx_pick rfl rfl rfl rfl rfl ?_
    refine lx_move rfl rfl rfl ?_
    refine lx_move rfl rfl rfl ?_
    refine lx_move rfl rfl rfl ?_
    refine lx_binB true rfl rfl (fun _ => rfl) (fun _ => bin_eql_i _ _ _) (beq_self_eq_true _) rfl rfl ?_
    refine lx_pick rfl rfl rfl rfl rfl ?_
    refine lx_move rfl rfl rfl ?_
    refine lx_loadr rfl Try.isAgg40 Try.sizeOf40 (Up.len (Up.re_ok f3.ok hk56)) (fun w' h => range_up hq14 (hz62.trans (hp_below h))) rfl rfl ?_
    refine lx_loada 20 rfl rfl Try.isAgg40 Try.sizeOf40 (Up.len (Up.re_ok f3.ok hk74)) rfl rfl ?_
    refine lx_callC rfl rfl ent28 (fun w1 hC hG => hup_calls (U3.re ka56 kc56 ba56 bc56) (Up.re_ok f3.ok hk56) (Nat.le_trans f3.n (by decide)) (Nat.le_trans f3.m (by decide)) ka74 kc74 ba74 bc74 hk74 w1 hG (hr56.grow (hz56.trans (hp_below hC))) (hr74.grow (hz74.trans (hp_below hC))) (hb56.grow (hz56.trans (hp_below hC))) (hb74.grow (hz74.trans (hp_below hC)))) rfl rfl ?_
    refine lx_pick rfl rfl rfl rfl rfl ?_
    refine lx_move rfl rfl rfl ?_
    refine lx_move rfl rfl rfl ?_
    refine lx_move rfl rfl rfl ?_
    refine lx_callC rfl rfl ent11 (fun w1 hC hG => byt_calls bs _ _ _ _ _ _ rfl rfl w1 hG (hs28s.grow (hz28.trans (hp_below hC))).bytes (hby.grow (hW.trans (hp_below hC)))) rfl rfl ?_
    refine lx_pick rfl rfl rfl rfl rfl ?_
    refine lx_assign rfl rfl rfl ?_
    refine lx_nil ?_
    refine x_ret ?_
    repeat (first | refine kseq_ret ?_ | refine kblk_ret ?_)
    exact kret_tmp rfl rfl (fun w' hw' => ⟨rfl, (by first | exact hp_below hw' | exact hW.trans (hp_below hw'))⟩)
end Go.Proofs.Ytlaanjcnfindnaa
