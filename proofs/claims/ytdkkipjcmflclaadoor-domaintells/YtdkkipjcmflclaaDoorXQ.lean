/-
  Sums reckoned by numbers, for the kernel. Nothing here names a program.
-/
import Derived.Test.YtdkkipjcmflclaaDoorM1
namespace Go.Proofs.YtdkkipjcmflclaaDoor
set_option maxRecDepth 100000
namespace Sh
abbrev tN : BitVec 32 → Nat := BitVec.toNat
abbrev M32 : Nat := 4294967296
def tn (x a b : Nat) : Nat := Nat.lor (Nat.mod (Nat.shiftLeft x a) M32) (Nat.shiftRight x b)
def s1N (x : Nat) : Nat := Nat.xor (Nat.xor (tn x 26 6) (tn x 21 11)) (tn x 7 25)
def s0N (x : Nat) : Nat := Nat.xor (Nat.xor (tn x 30 2) (tn x 19 13)) (tn x 10 22)
def l0N (x : Nat) : Nat := Nat.xor (Nat.xor (tn x 25 7) (tn x 14 18)) (Nat.shiftRight x 3)
def l1N (x : Nat) : Nat := Nat.xor (Nat.xor (tn x 15 17) (tn x 13 19)) (Nat.shiftRight x 10)
def aN (a b : Nat) : Nat := Nat.mod (Nat.add a b) M32
def w4N (bl : List Nat) (i : Nat) : Nat := Nat.lor (Nat.lor (Nat.lor (Nat.mod (Nat.shiftLeft (Nat.mod (bl.getD (4 * i) 0) M32) 24) M32) (Nat.mod (Nat.shiftLeft (Nat.mod (bl.getD (4 * i + 1) 0) M32) 16) M32)) (Nat.mod (Nat.shiftLeft (Nat.mod (bl.getD (4 * i + 2) 0) M32) 8) M32)) (Nat.mod (bl.getD (4 * i + 3) 0) M32)
def W1N (bl : List Nat) : Nat → List Nat
  | 0 => List.replicate 64 0
  | k + 1 => (W1N bl k).set k (w4N bl k)
def w5N (ws : List Nat) (i : Nat) : Nat := aN (aN (aN (l1N (ws.getD (i - 2) 0)) (ws.getD (i - 7) 0)) (l0N (ws.getD (i - 15) 0))) (ws.getD (i - 16) 0)
def W2N (bl : List Nat) : Nat → List Nat
  | 0 => W1N bl 16
  | k + 1 => (W2N bl k).set (16 + k) (w5N (W2N bl k) (16 + k))
structure VN where
  (a b c d e f g h : Nat)
def ttN (v : VN) (k w : Nat) : Nat := aN (aN (aN (aN v.h (s1N v.e)) (Nat.xor (Nat.land v.e v.f) (Nat.land (Nat.sub 4294967295 v.e) v.g))) k) w
def rndN (v : VN) (k w : Nat) : VN := ⟨aN (ttN v k w) (aN (s0N v.a) (Nat.xor (Nat.xor (Nat.land v.a v.b) (Nat.land v.a v.c)) (Nat.land v.b v.c))), v.a, v.b, v.c, aN v.d (ttN v k w), v.e, v.f, v.g⟩
def rndsN (v : VN) (ks ws : List Nat) : Nat → VN
  | 0 => v
  | k + 1 => rndN (rndsN v ks ws k) (ks.getD k 0) (ws.getD k 0)
def vN (s : List Nat) : VN := ⟨s.getD 0 0, s.getD 1 0, s.getD 2 0, s.getD 3 0, s.getD 4 0, s.getD 5 0, s.getD 6 0, s.getD 7 0⟩
def compN (ks s bl : List Nat) : List Nat :=
  let v := rndsN (vN s) ks (W2N bl 48) 64
  [aN (s.getD 0 0) v.a, aN (s.getD 1 0) v.b, aN (s.getD 2 0) v.c, aN (s.getD 3 0) v.d, aN (s.getD 4 0) v.e, aN (s.getD 5 0) v.f, aN (s.getD 6 0) v.g, aN (s.getD 7 0) v.h]
def mixN (ks s : List Nat) : List (List Nat) → List Nat
  | [] => s
  | b :: l => mixN ks (compN ks s b) l
def V8.n (v : V8) : VN := ⟨tN v.a, tN v.b, tN v.c, tN v.d, tN v.e, tN v.f, tN v.g, tN v.h⟩
theorem aN_e (x y : BitVec 32) : tN (x + y) = aN (tN x) (tN y) := BitVec.toNat_add x y
theorem rot_e (x : BitVec 32) (k : Int) (a b : Nat) (ha : (BitVec.ofInt 64 k &&& 31#64).toNat = a) (hb : (32#64 - (BitVec.ofInt 64 k &&& 31#64)).toNat = b) : tN (rotl x k) = tn (tN x) a b := by
  subst ha hb
  show BitVec.toNat (rotl x k) = _
  rw [rotl, BitVec.toNat_or, BitVec.toNat_shiftLeft, BitVec.toNat_ushiftRight]
  rfl
theorem xor_e (x y : BitVec 32) : tN (x ^^^ y) = Nat.xor (tN x) (tN y) := BitVec.toNat_xor x y
theorem and_e (x y : BitVec 32) : tN (x &&& y) = Nat.land (tN x) (tN y) := BitVec.toNat_and x y
theorem not_e (x : BitVec 32) : tN (~~~x) = Nat.sub 4294967295 (tN x) := BitVec.toNat_not
theorem s1_e (x : BitVec 32) : tN (sig1 x) = s1N (tN x) := by rw [sig1, xor_e, xor_e, rot_e x (-6) 26 6 (by decide) (by decide), rot_e x (-11) 21 11 (by decide) (by decide), rot_e x (-25) 7 25 (by decide) (by decide)]; rfl
theorem s0_e (x : BitVec 32) : tN (sig0 x) = s0N (tN x) := by rw [sig0, xor_e, xor_e, rot_e x (-2) 30 2 (by decide) (by decide), rot_e x (-13) 19 13 (by decide) (by decide), rot_e x (-22) 10 22 (by decide) (by decide)]; rfl
theorem shr_e (x : BitVec 32) (n : Nat) : tN (x >>> n) = Nat.shiftRight (tN x) n := BitVec.toNat_ushiftRight x n
theorem l0_e (x : BitVec 32) : tN (low0 x) = l0N (tN x) := by rw [low0, xor_e, xor_e, rot_e x (-7) 25 7 (by decide) (by decide), rot_e x (-18) 14 18 (by decide) (by decide), shr_e]; rfl
theorem l1_e (x : BitVec 32) : tN (low1 x) = l1N (tN x) := by rw [low1, xor_e, xor_e, rot_e x (-17) 15 17 (by decide) (by decide), rot_e x (-19) 13 19 (by decide) (by decide), shr_e]; rfl
theorem gd_e {n : Nat} (l : List (BitVec n)) (i : Nat) : (l.map BitVec.toNat).getD i 0 = (l.getD i 0).toNat := by
  rw [List.getD_eq_getElem?_getD, List.getD_eq_getElem?_getD, List.getElem?_map]
  cases l[i]? with
  | none => rfl
  | some x => rfl
theorem w4_e (bl : List (BitVec 8)) (i : Nat) : tN (w4 bl i) = w4N (bl.map BitVec.toNat) i := by
  have s : ∀ (x : BitVec 8) (k : Nat), BitVec.toNat (x.setWidth 32 <<< k) = Nat.mod (Nat.shiftLeft (Nat.mod x.toNat M32) k) M32 := fun x k => by
    rw [BitVec.toNat_shiftLeft, BitVec.toNat_setWidth]; rfl
  show BitVec.toNat (w4 bl i) = _
  rw [w4, w4N, BitVec.toNat_or, BitVec.toNat_or, BitVec.toNat_or, s, s, s, BitVec.toNat_setWidth, gd_e, gd_e, gd_e, gd_e]
  rfl
theorem W1_e (bl : List (BitVec 8)) : ∀ k, (W1 bl k).map tN = W1N (bl.map BitVec.toNat) k
  | 0 => by rw [W1, W1N, List.map_replicate]; rfl
  | k + 1 => by rw [W1, W1N, List.map_set, W1_e bl k, w4_e]
theorem w5_e (ws : List (BitVec 32)) (i : Nat) : tN (w5 ws i) = w5N (ws.map tN) i := by
  rw [w5, w5N, aN_e, aN_e, aN_e, l1_e, l0_e, gd_e, gd_e, gd_e, gd_e]
theorem W2_e (bl : List (BitVec 8)) : ∀ k, (W2 bl k).map tN = W2N (bl.map BitVec.toNat) k
  | 0 => W1_e bl 16
  | k + 1 => by rw [W2, W2N, List.map_set, W2_e bl k, w5_e, W2_e bl k]
theorem rnd_e (v : V8) (k w : BitVec 32) : (rnd v k w).n = rndN v.n (tN k) (tN w) := by
  have t : tN (v.h + sig1 v.e + (v.e &&& v.f ^^^ ~~~v.e &&& v.g) + k + w) = ttN v.n (tN k) (tN w) := by
    rw [aN_e, aN_e, aN_e, aN_e, s1_e, xor_e, and_e, and_e, not_e]; rfl
  have e1 : tN (rnd v k w).a = (rndN v.n (tN k) (tN w)).a := by
    show tN ((v.h + sig1 v.e + (v.e &&& v.f ^^^ ~~~v.e &&& v.g) + k + w) + (sig0 v.a + (v.a &&& v.b ^^^ v.a &&& v.c ^^^ v.b &&& v.c))) = _
    rw [aN_e, t, aN_e, s0_e, xor_e, xor_e, and_e, and_e, and_e]; rfl
  have e2 : tN (rnd v k w).e = (rndN v.n (tN k) (tN w)).e := by
    show tN (v.d + (v.h + sig1 v.e + (v.e &&& v.f ^^^ ~~~v.e &&& v.g) + k + w)) = _
    rw [aN_e, t]; rfl
  show VN.mk (tN (rnd v k w).a) _ _ _ (tN (rnd v k w).e) _ _ _ = _
  rw [e1, e2]; rfl
theorem rnds_e (v : V8) (ws : List (BitVec 32)) : ∀ k, (rnds v ws k).n = rndsN v.n (KW.map tN) (ws.map tN) k
  | 0 => rfl
  | k + 1 => by rw [rnds, rndsN, rnd_e, rnds_e v ws k, gd_e, gd_e]
theorem vN_e (st : List (BitVec 32)) : (v8 st).n = vN (st.map tN) := by
  simp only [vN, gd_e]; rfl
theorem comp_e (st : List (BitVec 32)) (bl : List (BitVec 8)) : (comp st bl).map tN = compN (KW.map tN) (st.map tN) (bl.map BitVec.toNat) := by
  have h := rnds_e (v8 st) (W2 bl 48) 64
  rw [vN_e, W2_e] at h
  rw [compN, ← h]
  simp only [comp, addV, List.map_cons, List.map_nil, gd_e, aN_e]
  rfl
theorem mixK_s (st : List (BitVec 32)) (b : List (BitVec 8)) (l : List (List (BitVec 8))) : ∀ k, mixK st (b :: l) (k + 1) = mixK (comp st b) l k
  | 0 => rfl
  | k + 1 => by rw [mixK, mixK_s st b l k]; rfl
theorem mix_e : ∀ (l : List (List (BitVec 8))) (st : List (BitVec 32)), (mixK st l l.length).map tN = mixN (KW.map tN) (st.map tN) (l.map (·.map BitVec.toNat))
  | [], _ => rfl
  | b :: l, st => by
    rw [List.length_cons, mixK_s, mix_e l, comp_e]; rfl
theorem back_e (l : List (BitVec 32)) : (l.map tN).map (BitVec.ofNat 32) = l := by
  rw [List.map_map]
  exact (List.map_congr_left fun x _ => BitVec.ofNat_toNat 32 x |>.trans (BitVec.setWidth_eq x)).trans (List.map_id l)
/-- A sum, by numbers. -/
theorem SHA_e (bs r : List (BitVec 8)) (h : DG ((mixN (KW.map tN) (IV.map tN) ((blks bs).map (·.map BitVec.toNat))).map (BitVec.ofNat 32)) 8 = r) : SHA bs = r := by
  rw [SHA, ← back_e (mixK IV (blks bs) (blks bs).length), mix_e]; exact h
end Sh
end Go.Proofs.YtdkkipjcmflclaaDoor
