/-
  What a decoder answers, by one form; the law of decoding.
-/
import Derived.Test.YtlaanjcnfindnaaVO
namespace Go.Proofs.Ytlaanjcnfindnaa
open Go.RowKit
set_option maxRecDepth 100000
set_option maxHeartbeats 1000000

theorem flat_at : ∀ (l : List By) {s : Nat}, (∀ r ∈ l, r.length = s) → ∀ i r, l[i]? = some r → ∀ j v, (r.map U8)[j]? = some v → (l.flatten.map U8)[i * s + j]? = some v
  | [], _, _, i, r, hr, _, _, _ => by simp at hr
  | x :: l, s, hl, 0, r, hr, j, v, hv => by
    simp at hr
    subst hr
    rw [List.flatten_cons, List.map_append, List.getElem?_append_left (by have := (List.getElem?_eq_some_iff.1 hv).1; omega), Nat.zero_mul, Nat.zero_add]
    exact hv
  | x :: l, s, hl, i + 1, r, hr, j, v, hv => by
    have hx : x.length = s := hl x List.mem_cons_self
    have := flat_at l (fun r h => hl r (List.mem_cons_of_mem _ h)) i r (by simpa using hr) j v hv
    rw [List.flatten_cons, List.map_append, List.getElem?_append_right (by rw [List.length_map, hx, Nat.succ_mul]; omega), List.length_map, hx, show (i + 1) * s + j - s = i * s + j from by rw [Nat.succ_mul]; omega]
    exact this
theorem rws_of {w : World} {ka : Option Addr} {kc m : Nat} {l : List By} (h : SlW 29 48 w ka kc m (l.flatten.map U8)) (hl : ∀ r ∈ l, r.length = 48) : RwsAt 48 w ka l := fun i r hr => by
  have h48 := hl r (List.mem_of_getElem? hr)
  have h0 : l.flatten.map U8 ≠ [] := fun e => by
    have := flat_at l hl i r hr 0 (U8 (r[0]'(by omega))) (by simp [List.getElem?_eq_getElem (show 0 < r.length by omega)])
    rw [e] at this
    simp at this
  obtain ⟨b, e, hb⟩ := h.at h0
  refine ⟨_, e, fun j v hv => ?_⟩
  have := hb _ v (flat_at l hl i r hr j v hv)
  rw [Addr.add_mid, Addr.add_mid, Nat.add_assoc]
  exact this
theorem slw_le {w : World} {e : TypeId} {s : Nat} {a : Option Addr} {cap n : Nat} {xs : List Value} (h : SlW e s w a cap n xs) : n ≤ cap := by
  rcases h with ⟨_, _, h1, h2⟩ | ⟨_, _, _, _, _, h, _⟩
  · omega
  · exact h
theorem rws_nil (w : World) (a : Option Addr) : RwsAt 48 w a [] := fun i r h => by simp at h
def BR (B : Bo) (c : Int) (w' : World) (v : Value) : Prop := ∃ ka kc, v = .tuple #[.agg (B.re ka kc).cs.toArray, I c] ∧ RwsAt 48 w' ka B.nw.ks ∧ B.nw.ks.length ≤ kc
structure Up.Fit (u : Up) : Prop where
  ok : u.Ok
  n : u.nx.ks.length ≤ 1000
  m : u.sy.bs.length ≤ 1000
structure Bo.Fit (b : Bo) : Prop where
  ok : b.Ok
  n : b.nw.ks.length ≤ 1000
theorem Up.one (u : Up) : u.cs.all (·.oneCell') = true := UC_one (Hd.one _) (CoC_one _ _ _ _) (one_u8 _) (Hd.one _) (one_u8 _) (CoC_one _ _ _ _) rfl
theorem Bo.one (b : Bo) : b.cs.all (·.oneCell') = true := by
  rw [Bo.cs, List.all_append, List.all_append, Hd.one, one_u8, show b.nw.cs.all (·.oneCell') = true from CoC_one _ _ _ _]; rfl
def u1Of (bs : By) (m : Nat) : Up := ⟨hdOf bs, ⟨keysOf (bs.drop 112) m, none, m, sub (bs.drop 112) (48 * m) 48⟩, sub bs (160 + 48 * m) (32 * 5), hdOf (bs.drop (320 + 48 * m)), sub bs (432 + 48 * m) (32 * 6), ⟨bt (sub bs (624 + 48 * m) (szB m)) m, none, 0, sub bs (624 + 48 * m + szB m) 96⟩, pn (sub bs (624 + 48 * m + szB m + 96) 8) 8⟩
def u2Of (bs : By) (m : Nat) : Up := ⟨hdOf bs, ⟨[], none, 0, Z48⟩, Zs 160, hdOf (bs.drop 112), sub bs 224 (32 * 6), ⟨bt (sub bs (416) (szB m)) m, none, 0, sub bs (416 + szB m) 96⟩, pn (sub bs (416 + szB m + 96) 8) 8⟩
def u3Of (bs : By) (m : Nat) : Up := ⟨hdOf bs, ⟨[], none, 0, Z48⟩, Zs 160, Hd0, Zs 192, ⟨bt (sub bs (112) (szB m)) m, none, 0, sub bs (112 + szB m) 96⟩, pn (sub bs (112 + szB m + 96) 8) 8⟩
end Go.Proofs.Ytlaanjcnfindnaa
