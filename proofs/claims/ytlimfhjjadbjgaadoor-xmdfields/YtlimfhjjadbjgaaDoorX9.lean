/-
  The document's numbers of many bytes.
-/
import Derived.Test.YtlimfhjjadbjgaaDoorX8
import Derived.Test.YtlimfhjjadbjgaaDoorX7
namespace Go.Proofs.YtlimfhjjadbjgaaDoor
open Go.RowKit
set_option maxRecDepth 100000
set_option maxHeartbeats 1000000
attribute [local simp] fe_len nm_len AS_len SS_len MONT_len RM_len FRs_len BYs_len by48_len PLl TWOl ONEl N1l IVPl HFPl RTPl WDs_len

theorem V_cons0 (n : BitVec 64) : ∀ k, V (n :: List.replicate 5 0) (k + 1) = n.toNat
  | 0 => by rw [V_succ, V, Nat.mul_zero, Nat.pow_zero, Nat.mul_one, Nat.zero_add]; rfl
  | k + 1 => by
    have h0 : (n :: List.replicate 5 (0 : BitVec 64)).getD (k + 1) 0 = 0 := by
      rw [List.getD_eq_getElem?_getD, List.getElem?_cons_succ, List.getElem?_replicate]
      split <;> rfl
    rw [V_succ, V_cons0 n k, h0, show (0 : BitVec 64).toNat = 0 from rfl, Nat.zero_mul, Nat.add_zero]
theorem V_small (n : BitVec 64) : V (n :: List.replicate 5 0) 6 = n.toNat := V_cons0 n 5
/-! ### The reference's numbers of many bytes -/
theorem V_set0 (t : List (BitVec 64)) (n k : Nat) (hk : k < t.length) (hn : k < n) (x : BitVec 64) : V (t.set k x) n + (t.getD k 0).toNat * 2 ^ (64 * k) = V t n + x.toNat * 2 ^ (64 * k) := V_set t k x hk n hn
theorem ab_aux {v0 v1 x y a W q c : Nat} (h : v1 + a * q = v0 + x * q) (e : x + y * W = a + c) : v1 + y * (q * W) = v0 + c * q := by
  have : (x + y * W) * q = (a + c) * q := by rw [e]
  rw [Nat.add_mul, Nat.add_mul, Nat.mul_assoc, Nat.mul_comm W] at this
  omega
theorem AB_val (t : List (BitVec 64)) (c : BitVec 64) (n : Nat) (ht : t.length = n) : ∀ j, j < n → V (AB t c j).1 n + (AB t c j).2.toNat * 2 ^ (64 * (j + 1)) = V t n + c.toNat
  | 0, h => by
    have h1 := V_set0 t n 0 (by omega) h (ADC (t.getD 0 0) c 0).1
    have h2 := ADC_val (t.getD 0 0) c 0
    rw [show (0 : BitVec 64).toNat = 0 from rfl, Nat.add_zero] at h2
    have h3 := ab_aux (W := 18446744073709551616) h1 h2
    rw [Nat.mul_zero, Nat.pow_zero, Nat.one_mul, Nat.mul_one] at h3
    rw [AB, show 64 * (0 + 1) = 64 from rfl]
    exact h3
  | j + 1, h => by
    have ih := AB_val t c n ht j (by omega)
    have h1 := V_set0 (AB t c j).1 n (j + 1) (by rw [AB_len]; omega) h (ADC ((AB t c j).1.getD (j + 1) 0) 0 (AB t c j).2).1
    have h2 := ADC_val ((AB t c j).1.getD (j + 1) 0) 0 (AB t c j).2
    rw [show (0 : BitVec 64).toNat = 0 from rfl, Nat.add_zero] at h2
    have h3 := ab_aux (W := 18446744073709551616) h1 h2
    rw [AB, pow64 (j + 1)]
    simp only []
    rw [h3, ih]
theorem n256 : V (256#64 :: List.replicate 5 0) 6 = 256 := V_small 256#64
theorem ab_over {v y q m c : Nat} (h : v + y * q = m + c) (hm : m + c < q) : v = m + c := by
  rcases Nat.eq_zero_or_pos y with rfl | hy
  · omega
  · have : q ≤ y * q := Nat.le_mul_of_pos_left q hy
    omega
theorem PL_ne : PL ≠ List.replicate 6 0 := by decide
theorem R12_big {k : Nat} (h : R6 = 2 ^ k) (hk : 64 * 12 = k + k) : 2 ^ (64 * 12) = R6 * R6 := by rw [hk, Nat.pow_add, h]
theorem WDs_val (bs : List (BitVec 8)) : ∀ i, V (WDs bs PL i) 6 = BN bs i % PP
  | 0 => (V_zero 6 6).trans (Nat.zero_mod _).symm
  | i + 1 => by
    have ih := WDs_val bs i
    have hlt : V (WDs bs PL i) 6 < PP := by rw [ih]; exact Nat.mod_lt _ PP_pos
    have hb := (bs.getD i 0).isLt
    have e0 : ((bs.getD i 0).setWidth 64).toNat = (bs.getD i 0).toNat := by
      rw [BitVec.toNat_setWidth]; exact Nat.mod_eq_of_lt (by omega)
    have h1 := AB_val (MU (WDs bs PL i) (256#64 :: List.replicate 5 0) 6) ((bs.getD i 0).setWidth 64) 12 (MU_len _ _ _) 11 (by decide)
    rw [MU_val _ _ 6 (Nat.le_refl _), n256, e0] at h1
    have h2 : V (AB (MU (WDs bs PL i) (256#64 :: List.replicate 5 0) 6) ((bs.getD i 0).setWidth 64) 11).1 12 = V (WDs bs PL i) 6 * 256 + (bs.getD i 0).toNat := by
      refine ab_over h1 ?_
      have hR := PP_R6
      have hbig : 1000 * R6 ≤ R6 * R6 := Nat.mul_le_mul_right _ (Nat.le_of_lt (Nat.lt_trans PP_big hR))
      rw [show 64 * (11 + 1) = 64 * 12 from rfl, R12_big R6_def rfl]
      omega
    rw [WDs_succ, MOD_val _ PL rfl PL_ne, h2, PL_val, ih, BN, Nat.add_mod, Nat.mod_mul_mod, ← Nat.add_mod, Nat.mul_comm]
theorem RM_WDs (bs : List (BitVec 8)) : RM (WDs bs PL bs.length) TWO = fe (ZB bs) := by
  rw [RM_two _ (by rw [WDs_val]; exact Nat.mod_lt _ PP_pos), WDs_val, zp_mod]; rfl
theorem rofW (bs : List (BitVec 8)) : Pure Tryd.prog Gt 33 [NV (WDs bs PL bs.length)] (EV (ZB bs)) := by
  have h := rof_pure (WDs bs PL bs.length) (WDs_len _ _ _)
  rw [RM_WDs] at h
  exact h
end Go.Proofs.YtlimfhjjadbjgaaDoor
