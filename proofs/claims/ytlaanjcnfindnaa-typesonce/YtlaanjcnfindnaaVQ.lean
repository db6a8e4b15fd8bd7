/-
  What a decoder answers, by one form; the law of decoding.
-/
import Derived.Test.YtlaanjcnfindnaaVO
namespace Go.Proofs.Ytlaanjcnfindnaa
open Go.RowKit
set_option maxRecDepth 100000
set_option maxHeartbeats 1000000

theorem flat_at : ∀ (l : List By) {s : Nat}, (∀ r ∈ l, r.length = s) → ∀ i r, l[i]? = some r → ∀ j v, (r.map U8)[j]? = some v → (l.flatten.map U8)[i * s + j]? = some v
  | [], _, _, i, r, hr, _, _, _ => by simp at hr
  | x :: l, s, hl, 0, r, hr, j, v, hv => by
    simp at hr
    subst hr
    rw [List.flatten_cons, List.map_append, List.getElem?_append_left (by have := (List.getElem?_eq_some_iff.1 hv).1; omega), Nat.zero_mul, Nat.zero_add]
    exact hv
  | x :: l, s, hl, i + 1, r, hr, j, v, hv => by
    have hx : x.length = s := hl x List.mem_cons_self
    have := flat_at l (fun r h => hl r (List.mem_cons_of_mem _ h)) i r (by simpa using hr) j v hv
    rw [List.flatten_cons, List.map_append, List.getElem?_append_right (by rw [List.length_map, hx, Nat.succ_mul]; omega), List.length_map, hx, show (i + 1) * s + j - s = i * s + j from by rw [Nat.succ_mul]; omega]
    exact this
theorem rws_of {w : World} {ka : Option Addr} {kc m : Nat} {l : List By} (h : SlW 29 48 w ka kc m (l.flatten.map U8)) (hl : ∀ r ∈ l, r.length = 48) : RwsAt 48 w ka l := fun i r hr => by
  have h48 := hl r (List.mem_of_getElem? hr)
  have h0 : l.flatten.map U8 ≠ [] := fun e => by
    have := flat_at l hl i r hr 0 (U8 (r[0]'(by omega))) (by simp [List.getElem?_eq_getElem (show 0 < r.length by omega)])
    rw [e] at this
    simp at this
  obtain ⟨b, e, hb⟩ := h.at h0
  refine ⟨_, e, fun j v hv => ?_⟩
  have := hb _ v (flat_at l hl i r hr j v hv)
  rw [Addr.add_mid, Addr.add_mid, Nat.add_assoc]
  exact this
theorem slw_le {w : World} {e : TypeId} {s : Nat} {a : Option Addr} {cap n : Nat} {xs : List Value} (h : SlW e s w a cap n xs) : n ≤ cap := by
  rcases h with ⟨_, _, h1, h2⟩ | ⟨_, _, _, _, _, h, _⟩
  · omega
  · exact h
theorem rws_nil (w : World) (a : Option Addr) : RwsAt 48 w a [] := fun i r h => by simp at h
def UR (U : Up) (c : Int) (w' : World) (v : Value) : Prop := ∃ ka kc ba bc, v = .tuple #[.agg (U.re ka kc ba bc).cs.toArray, I c] ∧ RwsAt 48 w' ka U.nx.ks ∧ CellsAt w' ba (U.sy.bs.map .bool) ∧ U.nx.ks.length ≤ kc
def BR (B : Bo) (c : Int) (w' : World) (v : Value) : Prop := ∃ ka kc, v = .tuple #[.agg (B.re ka kc).cs.toArray, I c] ∧ RwsAt 48 w' ka B.nw.ks ∧ B.nw.ks.length ≤ kc
structure Up.Fit (u : Up) : Prop where
  ok : u.Ok
  n : u.nx.ks.length ≤ 1000
  m : u.sy.bs.length ≤ 1000
structure Bo.Fit (b : Bo) : Prop where
  ok : b.Ok
  n : b.nw.ks.length ≤ 1000
def Uz : Up := ⟨Hd0, ⟨[], none, 0, Z48⟩, Zs 160, Hd0, Zs 192, ⟨[], none, 0, Z96⟩, 0⟩
theorem Uz_fit : Uz.Fit := ⟨⟨Hd0_ok, ⟨fun _ h => (by cases h), rfl, Nat.le_refl _⟩, rfl, Hd0_ok, rfl, ⟨rfl⟩⟩, Nat.zero_le _, Nat.zero_le _⟩
theorem Uz_ur {w : World} {c : Int} : UR Uz c w (.tuple #[.agg U0.toArray, I c]) := ⟨none, 0, none, 0, rfl, rws_nil _ _, cells_nil _ _, Nat.le_refl _⟩
theorem Bo0_fit : Bo0.Fit := ⟨⟨Hd0_ok, ⟨fun _ h => (by cases h), rfl, Nat.le_refl _⟩, rfl⟩, Nat.zero_le _⟩
theorem Bo0_br {w : World} {c : Int} : BR Bo0 c w (.tuple #[.agg Bo0.cs.toArray, I c]) := ⟨none, 0, rfl, rws_nil _ _, Nat.le_refl _⟩
theorem Up.one (u : Up) : u.cs.all (·.oneCell') = true := UC_one (Hd.one _) (CoC_one _ _ _ _) (one_u8 _) (Hd.one _) (one_u8 _) (CoC_one _ _ _ _) rfl
theorem Bo.one (b : Bo) : b.cs.all (·.oneCell') = true := by
  rw [Bo.cs, List.all_append, List.all_append, Hd.one, one_u8, show b.nw.cs.all (·.oneCell') = true from CoC_one _ _ _ _]; rfl
def u1Of (bs : By) (m : Nat) : Up := ⟨hdOf bs, ⟨keysOf (bs.drop 112) m, none, m, sub (bs.drop 112) (48 * m) 48⟩, sub bs (160 + 48 * m) (32 * 5), hdOf (bs.drop (320 + 48 * m)), sub bs (432 + 48 * m) (32 * 6), ⟨bt (sub bs (624 + 48 * m) (szB m)) m, none, 0, sub bs (624 + 48 * m + szB m) 96⟩, pn (sub bs (624 + 48 * m + szB m + 96) 8) 8⟩
def u2Of (bs : By) (m : Nat) : Up := ⟨hdOf bs, ⟨[], none, 0, Z48⟩, Zs 160, hdOf (bs.drop 112), sub bs 224 (32 * 6), ⟨bt (sub bs (416) (szB m)) m, none, 0, sub bs (416 + szB m) 96⟩, pn (sub bs (416 + szB m + 96) 8) 8⟩
def u3Of (bs : By) (m : Nat) : Up := ⟨hdOf bs, ⟨[], none, 0, Z48⟩, Zs 160, Hd0, Zs 192, ⟨bt (sub bs (112) (szB m)) m, none, 0, sub bs (112 + szB m) 96⟩, pn (sub bs (112 + szB m + 96) 8) 8⟩
theorem u1_fit {bs : By} {m : Nat} (h : bs.length = sz2 m) (hm : m ≤ 1000) : (u1Of bs m).Fit :=
  ⟨⟨hdOf_ok (by simp only [sz2, szB] at h ⊢; omega), ⟨keysOf_all (by rw [List.length_drop]; simp only [sz2, szB] at h ⊢; omega), sub_len (by rw [List.length_drop]; simp only [sz2, szB] at h ⊢; omega), Nat.le_of_eq (keysOf_len _ _)⟩, sub_len (by simp only [sz2, szB] at h ⊢; omega), hdOf_ok (by rw [List.length_drop]; simp only [sz2, szB] at h ⊢; omega), sub_len (by simp only [sz2, szB] at h ⊢; omega), ⟨sub_len (by simp only [sz2, szB] at h ⊢; omega)⟩⟩, by show (keysOf _ _).length ≤ 1000; rw [keysOf_len]; omega, by show (bt _ _).length ≤ 1000; rw [bt_len]; exact hm⟩
theorem d1_ur (bs : By) (m : Nat) (hm : m ≤ 1000) : ∃ U c, U.Fit ∧ (c = 0 → U = u1Of bs m ∧ bs.length = sz2 m ∧ cleanB (sub bs (624 + 48 * m) (szB m)) m = true) ∧ ∀ (w w' : World) (e : Ending), (Grow w w' ∧ (bs.length = sz2 m → cleanB (sub bs (624 + 48 * m) (szB m)) m = true → ∃ ka kc, SlW 29 48 w' ka kc m ((keysOf (bs.drop 112) m).flatten.map U8) ∧ (∀ k, Of ka k → w.heap.size ≤ k) ∧ ∃ ba bc, e = .returned (.tuple #[.agg (UC (hdOf bs).cs (Value.slice ka m kc :: (sub (bs.drop 112) (48 * m) 48).map U8) ((sub bs (160 + 48 * m) (32 * 5)).map U8) (hdOf (bs.drop (320 + 48 * m))).cs ((sub bs (432 + 48 * m) (32 * 6)).map U8) (Value.slice ba (bt (sub bs (624 + 48 * m) (szB m)) m).length bc :: (sub bs (624 + 48 * m + szB m) 96).map U8) [U64 (pn (sub bs (624 + 48 * m + szB m + 96) 8) 8)]).toArray, I 0]) ∧ SlV 4 w' ba bc ((bt (sub bs (624 + 48 * m) (szB m)) m).map .bool) ∧ ∀ ad, ba = some ad → w.heap.size ≤ ad.block) ∧ (bs.length = sz2 m → cleanB (sub bs (624 + 48 * m) (szB m)) m = false → e = .returned (.tuple #[.agg U0.toArray, I 171])) ∧ (¬ bs.length = sz2 m → e = .returned (.tuple #[.agg U0.toArray, I 170]))) → Grow w w' ∧ ∃ v, e = .returned v ∧ UR U c w' v := by
  by_cases h : bs.length = sz2 m
  · rcases Bool.eq_false_or_eq_true (cleanB (sub bs (624 + 48 * m) (szB m)) m) with hc | hc
    · exact ⟨u1Of bs m, 0, u1_fit h hm, fun _ => ⟨rfl, h, hc⟩, fun w w' e ⟨hg, h1, _, _⟩ => by
        obtain ⟨ka, kc, hs, _, ba, bc, rfl, hb, _⟩ := h1 h hc
        exact ⟨hg, _, rfl, ka, kc, ba, bc, by simp only [Up.re, Up.cs, Co.cs, Ag.cs, u1Of, keysOf_len, UC], rws_of hs (u1_fit h hm).ok.nx.ks, hb.cells, by show (keysOf _ _).length ≤ kc; rw [keysOf_len]; exact slw_le hs⟩⟩
    · exact ⟨Uz, 171, Uz_fit, (fun h => absurd h (by decide)), fun w w' e ⟨hg, _, h2, _⟩ => ⟨hg, _, h2 h hc, Uz_ur⟩⟩
  · exact ⟨Uz, 170, Uz_fit, (fun h => absurd h (by decide)), fun w w' e ⟨hg, _, _, h3⟩ => ⟨hg, _, h3 h, Uz_ur⟩⟩
theorem u2_fit {bs : By} {m : Nat} (h : bs.length = sz3 m) (hm : m ≤ 1000) : (u2Of bs m).Fit :=
  ⟨⟨hdOf_ok (by simp only [sz3, szB] at h ⊢; omega), ⟨fun _ h => (by cases h), rfl, Nat.le_refl _⟩, rfl, hdOf_ok (by rw [List.length_drop]; simp only [sz3, szB] at h ⊢; omega), sub_len (by simp only [sz3, szB] at h ⊢; omega), ⟨sub_len (by simp only [sz3, szB] at h ⊢; omega)⟩⟩, Nat.zero_le _, by show (bt _ _).length ≤ 1000; rw [bt_len]; exact hm⟩
theorem d2_ur (bs : By) (m : Nat) (hm : m ≤ 1000) : ∃ U c, U.Fit ∧ (c = 0 → U = u2Of bs m ∧ bs.length = sz3 m ∧ cleanB (sub bs (416) (szB m)) m = true) ∧ ∀ (w w' : World) (e : Ending), (Grow w w' ∧ (bs.length = sz3 m → cleanB (sub bs (416) (szB m)) m = true → ∃ ba bc, e = .returned (.tuple #[.agg (UC (hdOf bs).cs Co0 ((Zs 160).map U8) (hdOf (bs.drop (112))).cs ((sub bs (224) (32 * 6)).map U8) (Value.slice ba (bt (sub bs (416) (szB m)) m).length bc :: (sub bs (416 + szB m) 96).map U8) [U64 (pn (sub bs (416 + szB m + 96) 8) 8)]).toArray, I 0]) ∧ SlV 4 w' ba bc ((bt (sub bs (416) (szB m)) m).map .bool) ∧ ∀ ad, ba = some ad → w.heap.size ≤ ad.block) ∧ (bs.length = sz3 m → cleanB (sub bs (416) (szB m)) m = false → e = .returned (.tuple #[.agg U0.toArray, I 171])) ∧ (¬ bs.length = sz3 m → e = .returned (.tuple #[.agg U0.toArray, I 170]))) → Grow w w' ∧ ∃ v, e = .returned v ∧ UR U c w' v := by
  by_cases h : bs.length = sz3 m
  · rcases Bool.eq_false_or_eq_true (cleanB (sub bs (416) (szB m)) m) with hc | hc
    · exact ⟨u2Of bs m, 0, u2_fit h hm, fun _ => ⟨rfl, h, hc⟩, fun w w' e ⟨hg, h1, _, _⟩ => by
        obtain ⟨ba, bc, rfl, hb, _⟩ := h1 h hc
        exact ⟨hg, _, rfl, none, 0, ba, bc, rfl, rws_nil _ _, hb.cells, Nat.le_refl _⟩⟩
    · exact ⟨Uz, 171, Uz_fit, (fun h => absurd h (by decide)), fun w w' e ⟨hg, _, h2, _⟩ => ⟨hg, _, h2 h hc, Uz_ur⟩⟩
  · exact ⟨Uz, 170, Uz_fit, (fun h => absurd h (by decide)), fun w w' e ⟨hg, _, _, h3⟩ => ⟨hg, _, h3 h, Uz_ur⟩⟩
theorem u3_fit {bs : By} {m : Nat} (h : bs.length = sz4 m) (hm : m ≤ 1000) : (u3Of bs m).Fit :=
  ⟨⟨hdOf_ok (by simp only [sz4, szB] at h ⊢; omega), ⟨fun _ h => (by cases h), rfl, Nat.le_refl _⟩, rfl, Hd0_ok, rfl, ⟨sub_len (by simp only [sz4, szB] at h ⊢; omega)⟩⟩, Nat.zero_le _, by show (bt _ _).length ≤ 1000; rw [bt_len]; exact hm⟩
theorem d3_ur (bs : By) (m : Nat) (hm : m ≤ 1000) : ∃ U c, U.Fit ∧ (c = 0 → U = u3Of bs m ∧ bs.length = sz4 m ∧ cleanB (sub bs (112) (szB m)) m = true) ∧ ∀ (w w' : World) (e : Ending), (Grow w w' ∧ (bs.length = sz4 m → cleanB (sub bs (112) (szB m)) m = true → ∃ ba bc, e = .returned (.tuple #[.agg (UC (hdOf bs).cs Co0 ((Zs 160).map U8) Hd0.cs ((Zs 192).map U8) (Value.slice ba (bt (sub bs (112) (szB m)) m).length bc :: (sub bs (112 + szB m) 96).map U8) [U64 (pn (sub bs (112 + szB m + 96) 8) 8)]).toArray, I 0]) ∧ SlV 4 w' ba bc ((bt (sub bs (112) (szB m)) m).map .bool) ∧ ∀ ad, ba = some ad → w.heap.size ≤ ad.block) ∧ (bs.length = sz4 m → cleanB (sub bs (112) (szB m)) m = false → e = .returned (.tuple #[.agg U0.toArray, I 171])) ∧ (¬ bs.length = sz4 m → e = .returned (.tuple #[.agg U0.toArray, I 170]))) → Grow w w' ∧ ∃ v, e = .returned v ∧ UR U c w' v := by
  by_cases h : bs.length = sz4 m
  · rcases Bool.eq_false_or_eq_true (cleanB (sub bs (112) (szB m)) m) with hc | hc
    · exact ⟨u3Of bs m, 0, u3_fit h hm, fun _ => ⟨rfl, h, hc⟩, fun w w' e ⟨hg, h1, _, _⟩ => by
        obtain ⟨ba, bc, rfl, hb, _⟩ := h1 h hc
        exact ⟨hg, _, rfl, none, 0, ba, bc, rfl, rws_nil _ _, hb.cells, Nat.le_refl _⟩⟩
    · exact ⟨Uz, 171, Uz_fit, (fun h => absurd h (by decide)), fun w w' e ⟨hg, _, h2, _⟩ => ⟨hg, _, h2 h hc, Uz_ur⟩⟩
  · exact ⟨Uz, 170, Uz_fit, (fun h => absurd h (by decide)), fun w w' e ⟨hg, _, _, h3⟩ => ⟨hg, _, h3 h, Uz_ur⟩⟩
theorem dB_br (bs : By) (m : Nat) (hm : m ≤ 1000) : ∃ B c, B.Fit ∧ (c = 0 → B = boOf bs m none m ∧ bs.length = sz1 m) ∧ ∀ (w w' : World) (e : Ending), (Grow w w' ∧ (bs.length = sz1 m → ∃ ka kc, e = .returned (.tuple #[.agg (boOf bs m ka kc).cs.toArray, I 0]) ∧ SlW 29 48 w' ka kc m ((keysOf (bs.drop 112) m).flatten.map U8) ∧ ∀ k, Of ka k → w.heap.size ≤ k) ∧ (¬ bs.length = sz1 m → e = .returned (.tuple #[.agg Bo0.cs.toArray, I 170]))) → Grow w w' ∧ ∃ v, e = .returned v ∧ BR B c w' v := by
  by_cases h : bs.length = sz1 m
  · exact ⟨boOf bs m none m, 0, ⟨boOf_ok h (Nat.le_refl _), by show (keysOf _ _).length ≤ 1000; rw [keysOf_len]; exact hm⟩, fun _ => ⟨rfl, h⟩, fun w w' e ⟨hg, h1, _⟩ => by
      obtain ⟨ka, kc, rfl, hs, _⟩ := h1 h
      exact ⟨hg, _, rfl, ka, kc, rfl, rws_of hs (boOf_ok (ka := none) h (Nat.le_refl m)).nw.ks, by show (keysOf _ _).length ≤ kc; rw [keysOf_len]; exact slw_le hs⟩⟩
  · exact ⟨Bo0, 170, Bo0_fit, (fun h => absurd h (by decide)), fun w w' e ⟨hg, _, h2⟩ => ⟨hg, _, h2 h, Bo0_br⟩⟩
end Go.Proofs.Ytlaanjcnfindnaa
