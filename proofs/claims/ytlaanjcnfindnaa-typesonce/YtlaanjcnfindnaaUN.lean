/-
  What is decoded gives back its bytes.
-/
import Derived.Test.YtlaanjcnfindnaaVQ
import Derived.Test.YtlaanjcnfindnaaTM
namespace Go.Proofs.Ytlaanjcnfindnaa
open Go.RowKit
set_option maxRecDepth 100000
set_option maxHeartbeats 1000000

theorem pn_bit (bs : By) : ∀ (k : Nat), k ≤ 8 → ∀ i, i < 64 → (pn bs k).getLsbD i = (decide (i < 8 * k) && (bs.getD (i / 8) 0#8).getLsbD (i % 8))
  | 0, _, i, hi => by simp [pn]
  | k + 1, hk, i, hi => by
    rw [pn, BitVec.getLsbD_or, pn_bit bs k (by omega) i hi, BitVec.getLsbD_shiftLeft, BitVec.getLsbD_setWidth]
    by_cases h1 : i < 8 * k
    · simp [h1, show i < 8 * (k + 1) by omega]
    · by_cases h2 : i < 8 * (k + 1)
      · rw [show i / 8 = k by omega, show i - 8 * k = i % 8 by omega]
        simp [h1, h2, hi, show i % 8 < 64 by omega]
      · have h3 : (bs.getD k 0#8).getLsbD (i - 8 * k) = false := BitVec.getLsbD_of_ge _ _ (by omega)
        rw [h3]; simp [h1, h2]
theorem le8_pn {l : By} (hl : l.length = 8) : le8 (pn l 8) 8 = l := by
  refine bytes_ext (by rw [le8_len, hl]) (fun i hi => ?_)
  rw [le8_len] at hi
  have e : (le8 (pn l 8) 8).getD i 0#8 = ((pn l 8) >>> (8 * i)).setWidth 8 := by simp [le8, List.getD_eq_getElem?_getD]; rw [List.getElem?_range hi]; rfl
  rw [e]
  refine byte_ext fun k hk => ?_
  rw [BitVec.getLsbD_setWidth, BitVec.getLsbD_ushiftRight, pn_bit l 8 (Nat.le_refl _) _ (by omega)]
  simp [hk, show 8 * i + k < 64 by omega, show (8 * i + k) / 8 = i by omega, show (8 * i + k) % 8 = k by omega]
theorem sub_cat (bs : By) (o a b p : Nat) (h : o + a = p) : sub bs o a ++ sub bs p b = sub bs o (a + b) := by rw [sub_add, h]
theorem sub_all {bs : By} {n : Nat} (h : bs.length = n) : sub bs 0 n = bs := by rw [sub, List.drop_zero, List.take_of_length_le (by omega)]
theorem sub_x (bs : By) (o p n : Nat) : sub (bs.drop o) p n = sub bs (o + p) n := by rw [sub, sub, List.drop_drop]
theorem hdOf_by {bs : By} {K : Nat} (h : K + 112 ≤ bs.length) : (hdOf (bs.drop K)).by = sub bs K 112 := by
  show le8 (pn (sub (bs.drop K) 0 8) 8) 8 ++ (le8 (pn (sub (bs.drop K) 8 8) 8) 8 ++ (sub (bs.drop K) 16 32 ++ (sub (bs.drop K) 48 32 ++ sub (bs.drop K) 80 32))) = _
  rw [le8_pn (sub_len (by rw [List.length_drop]; omega)), le8_pn (sub_len (by rw [List.length_drop]; omega)), sub_cat _ _ _ _ _ rfl, sub_cat _ _ _ _ _ rfl, sub_cat _ _ _ _ _ rfl, sub_cat _ _ _ _ _ rfl, sub_x]
  rfl
theorem keysB_of {bs : By} : ∀ (m n : Nat), n ≤ m → 48 * m ≤ bs.length → keysB (keysOf bs m) n = sub bs 0 (48 * n)
  | m, 0, _, _ => by simp [keysB, sub]
  | m, n + 1, hn, hl => by
    have e : (keysOf bs m).getD n Z48 = sub bs (48 * n) 48 := by
      rw [List.getD_eq_getElem?_getD, keysOf, List.getElem?_map, List.getElem?_range (by omega)]
      rfl
    rw [keysB_s, keysB_of m n (by omega) hl, e, sub_cat _ _ _ _ _ (Nat.zero_add _), Nat.mul_succ]
theorem co_by {bs : By} {K m kc : Nat} {ka : Option Addr} (h : K + (48 * m + 48) ≤ bs.length) : (⟨keysOf (bs.drop K) m, ka, kc, sub (bs.drop K) (48 * m) 48⟩ : Co).by m = sub bs K (48 * m + 48) := by
  show keysB (keysOf (bs.drop K) m) m ++ sub (bs.drop K) (48 * m) 48 = _
  rw [keysB_of m m (Nat.le_refl _) (by rw [List.length_drop]; omega), sub_cat _ _ _ _ _ (Nat.zero_add _), sub_x]
  rfl
theorem ag_by {bs : By} {K m bc : Nat} {ba : Option Addr} (h : K + (szB m + 96) ≤ bs.length) (hc : cleanB (sub bs K (szB m)) m = true) : (⟨bt (sub bs K (szB m)) m, ba, bc, sub bs (K + szB m) 96⟩ : Ag).by = sub bs K (szB m + 96) := by
  show pb (bt (sub bs K (szB m)) m) (bt (sub bs K (szB m)) m).length ++ sub bs (K + szB m) 96 = _
  rw [pb_bt' (sub_len (by omega)) hc, sub_cat _ _ _ _ _ rfl]
theorem nu_by {bs : By} {K : Nat} (h : K + 8 ≤ bs.length) : le8 (pn (sub bs K 8) 8) 8 = sub bs K 8 := le8_pn (sub_len h)
theorem boOf_by {bs : By} {m kc : Nat} {ka : Option Addr} (h : bs.length = sz1 m) : (boOf bs m ka kc).by = bs := by
  unfold sz1 at h
  have e : (boOf bs m ka kc).nw.ks.length = m := keysOf_len _ _
  rw [Bo.by, e]
  show (hdOf (bs.drop 0)).by ++ ((⟨keysOf (bs.drop 112) m, ka, kc, sub (bs.drop 112) (48 * m) 48⟩ : Co).by m ++ sub bs (160 + 48 * m) 160) = _
  rw [hdOf_by (by omega), co_by (by omega), sub_cat _ _ _ _ _ (by omega), sub_cat _ _ _ _ _ rfl]
  exact sub_all (by omega)
theorem u1_by {bs : By} {m : Nat} (h : bs.length = sz2 m) (hc : cleanB (sub bs (624 + 48 * m) (szB m)) m = true) : (u1Of bs m).by = bs := by
  unfold sz2 at h
  have e : (u1Of bs m).sy.bs.length = m := bt_len ..
  rw [Up.by, e]
  show (hdOf (bs.drop 0)).by ++ ((⟨keysOf (bs.drop 112) m, none, m, sub (bs.drop 112) (48 * m) 48⟩ : Co).by m ++ (sub bs (160 + 48 * m) (32 * 5) ++ ((hdOf (bs.drop (320 + 48 * m))).by ++ (sub bs (432 + 48 * m) (32 * 6) ++ ((⟨bt (sub bs (624 + 48 * m) (szB m)) m, none, 0, sub bs (624 + 48 * m + szB m) 96⟩ : Ag).by ++ le8 (pn (sub bs (624 + 48 * m + szB m + 96) 8) 8) 8))))) = _
  rw [hdOf_by (by omega), co_by (by omega), hdOf_by (by omega), ag_by (by omega) hc, nu_by (by omega), sub_cat _ _ _ _ _ (by omega), sub_cat _ _ _ _ _ (by omega), sub_cat _ _ _ _ _ (by omega), sub_cat _ _ _ _ _ (by omega), sub_cat _ _ _ _ _ (by omega), sub_cat _ _ _ _ _ (by omega)]
  exact sub_all (by omega)
theorem u2_by {bs : By} {m : Nat} (h : bs.length = sz3 m) (hc : cleanB (sub bs 416 (szB m)) m = true) : (u2Of bs m).fin = bs := by
  unfold sz3 at h
  show (hdOf (bs.drop 0)).by ++ ((hdOf (bs.drop 112)).by ++ (sub bs 224 (32 * 6) ++ ((⟨bt (sub bs 416 (szB m)) m, none, 0, sub bs (416 + szB m) 96⟩ : Ag).by ++ le8 (pn (sub bs (416 + szB m + 96) 8) 8) 8))) = _
  rw [hdOf_by (by omega), hdOf_by (by omega), ag_by (by omega) hc, nu_by (by omega), sub_cat _ _ _ _ _ (by omega), sub_cat _ _ _ _ _ (by omega), sub_cat _ _ _ _ _ (by omega), sub_cat _ _ _ _ _ (by omega)]
  exact sub_all (by omega)
theorem u3_by {bs : By} {m : Nat} (h : bs.length = sz4 m) (hc : cleanB (sub bs 112 (szB m)) m = true) : (u3Of bs m).opt = bs := by
  unfold sz4 at h
  show (hdOf (bs.drop 0)).by ++ ((⟨bt (sub bs 112 (szB m)) m, none, 0, sub bs (112 + szB m) 96⟩ : Ag).by ++ le8 (pn (sub bs (112 + szB m + 96) 8) 8) 8) = _
  rw [hdOf_by (by omega), ag_by (by omega) hc, nu_by (by omega), sub_cat _ _ _ _ _ (by omega), sub_cat _ _ _ _ _ (by omega)]
  exact sub_all (by omega)
end Go.Proofs.Ytlaanjcnfindnaa
