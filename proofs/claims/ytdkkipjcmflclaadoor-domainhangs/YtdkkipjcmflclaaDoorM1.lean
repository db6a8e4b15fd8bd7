/-
  The document's sum is SHA: the reference's words, rounds and blocks against the program's.
-/
import Derived.Test.YtdkkipjcmflclaaDoorR3
namespace Go.Proofs.YtdkkipjcmflclaaDoor
open Go.RowKit
set_option maxRecDepth 100000

namespace Sh
theorem w4_wk (p : List (BitVec 8)) (o : Nat) : wk p o 0 4 = ((p.getD o 0).setWidth 32 <<< 24) ||| ((p.getD (o + 1) 0).setWidth 32 <<< 16) ||| ((p.getD (o + 2) 0).setWidth 32 <<< 8) ||| (p.getD (o + 3) 0).setWidth 32 := by
  simp only [wk, BitVec.shiftLeft_or_distrib, ← BitVec.shiftLeft_add, Nat.add_zero, Nat.reduceAdd]
  simp
def bk (p : List (BitVec 8)) (k : Nat) : List (BitVec 8) := (p.drop (64 * k)).take 64
theorem bk_getD (p : List (BitVec 8)) (k i : Nat) (h : i < 64) : (bk p k).getD i 0 = p.getD (64 * k + i) 0 := by
  simp [bk, List.getD_eq_getElem?_getD, h, List.getElem?_drop]
theorem V1_zero (p : List (BitVec 8)) (q : Nat) : ∀ i j, i ≤ j → (V1 p q i).getD j 0 = 0
  | 0, j, _ => by
    simp only [V1, List.getD_eq_getElem?_getD, List.getElem?_replicate]
    split <;> rfl
  | i + 1, j, h => by
    have := V1_zero p q i j (by omega)
    rw [List.getD_eq_getElem?_getD] at this ⊢
    rw [V1, List.getElem?_set_ne (by omega)]
    exact this
theorem V1_W1 (p : List (BitVec 8)) (k : Nat) : ∀ i, i ≤ 16 → V1 p (64 * k) i = W1 (bk p k) i
  | 0, _ => rfl
  | i + 1, h => by
    rw [V1, V1_zero p _ i i (Nat.le_refl _), w4_wk, V1_W1 p k i (by omega), W1, w4, bk_getD _ _ _ (by omega), bk_getD _ _ _ (by omega), bk_getD _ _ _ (by omega), bk_getD _ _ _ (by omega)]
    rfl
theorem rot_turn (x : BitVec 32) (k : Int) (m : Nat) (h1 : (BitVec.ofInt 64 k &&& 31#64).toNat = 32 - m) (h2 : (32#64 - (BitVec.ofInt 64 k &&& 31#64)).toNat = m) : rotl x k = turn x m := by
  rw [rotl, turn, h1, h2, BitVec.or_comm]
theorem low0_r0 (x : BitVec 32) : low0 x = r0 x := by
  rw [low0, r0, rot_turn x (-7) 7 (by decide) (by decide), rot_turn x (-18) 18 (by decide) (by decide)]
theorem low1_r1 (x : BitVec 32) : low1 x = r1 x := by
  rw [low1, r1, rot_turn x (-17) 17 (by decide) (by decide), rot_turn x (-19) 19 (by decide) (by decide)]
theorem sig0_t (x : BitVec 32) : sig0 x = turn x 2 ^^^ turn x 13 ^^^ turn x 22 := by
  rw [sig0, rot_turn x (-2) 2 (by decide) (by decide), rot_turn x (-13) 13 (by decide) (by decide), rot_turn x (-22) 22 (by decide) (by decide)]
theorem sig1_t (x : BitVec 32) : sig1 x = turn x 6 ^^^ turn x 11 ^^^ turn x 25 := by
  rw [sig1, rot_turn x (-6) 6 (by decide) (by decide), rot_turn x (-11) 11 (by decide) (by decide), rot_turn x (-25) 25 (by decide) (by decide)]
theorem r5_w5 (ws : List (BitVec 32)) (i : Nat) : r5 ws i = w5 ws i := by
  rw [r5, w5, low0_r0, low1_r1]
  ac_rfl
theorem V2_W2 (p : List (BitVec 8)) (k : Nat) : ∀ j, V2 p (64 * k) j = W2 (bk p k) j
  | 0 => V1_W1 p k 16 (by omega)
  | j + 1 => by rw [V2, W2, V2_W2 p k j, r5_w5]
def toL (v : V8) : List (BitVec 32) := [v.a, v.b, v.c, v.d, v.e, v.f, v.g, v.h]
theorem rr_rnd (v : V8) (k w : BitVec 32) : rr (toL v) k w = toL (rnd v k w) := by
  have e1 : rt (toL v) k w = v.h + sig1 v.e + (v.e &&& v.f ^^^ ~~~v.e &&& v.g) + k + w := by rw [sig1_t]; rfl
  have e2 : ru (toL v) = sig0 v.a + (v.a &&& v.b ^^^ v.a &&& v.c ^^^ v.b &&& v.c) := by rw [sig0_t]; rfl
  rw [rr, e1, e2]
  rfl
theorem mk_kw (j : Nat) : MK.getD (8 + j) 0 = KW.getD j 0 := by
  rw [MK, List.getD_eq_getElem?_getD, List.getElem?_append_right (by show 8 ≤ 8 + j; omega), show 8 + j - IV.length = j from by show 8 + j - 8 = j; omega, ← List.getD_eq_getElem?_getD]
theorem toL_v8 (h : List (BitVec 32)) (hh : h.length = 8) : toL (v8 h) = h := by
  match h, hh with
  | [_, _, _, _, _, _, _, _], _ => rfl
theorem RRs_rnds (h ws : List (BitVec 32)) (hh : h.length = 8) : ∀ j, RRs h ws j = toL (rnds (v8 h) ws j)
  | 0 => (toL_v8 h hh).symm
  | j + 1 => by rw [RRs, RRs_rnds h ws hh j, rr_rnd, mk_kw, rnds]
theorem HAs_addV (h : List (BitVec 32)) (v : V8) (hh : h.length = 8) : HAs h (toL v) 8 = addV h v := by
  match h, hh with
  | [_, _, _, _, _, _, _, _], _ => rfl
theorem RK_comp (p : List (BitVec 8)) (k : Nat) : RK p (k + 1) = comp (RK p k) (bk p k) := by
  rw [RK, comp, RRs_rnds _ _ (RK_len p k), HAs_addV _ _ (RK_len p k), V2_W2]
theorem OD_DG (h : List (BitVec 32)) (hh : h.length = 8) : OD h 32 = DG h 8 := by
  match h, hh with
  | [a, b, c, d, e, f, g, i], _ =>
    have z : ∀ x : BitVec 32, x >>> (0 : Nat) = x := fun x => by simp
    simp only [OD, DG, List.replicate, List.set, List.getD, Nat.reduceDiv, Nat.reduceMod, Nat.reduceMul, Nat.reduceAdd]
    simp
theorem RK_mixK (p : List (BitVec 8)) (L : List (List (BitVec 8))) : ∀ k, k ≤ L.length → (∀ i, i < L.length → bk p i = L.getD i []) → RK p k = mixK IV L k
  | 0, _, _ => rfl
  | k + 1, h, hb => by rw [RK_comp, mixK, RK_mixK p L k (by omega) hb, hb k (by omega)]
theorem flat_len (L : List (List (BitVec 8))) (h : ∀ l ∈ L, l.length = 64) : L.flatten.length = 64 * L.length := by
  induction L with
  | nil => rfl
  | cons x r ih =>
    rw [List.flatten_cons, List.length_append, ih (fun l hl => h l (by simp [hl])), h x (by simp), List.length_cons]
    omega
theorem bk_flat (L : List (List (BitVec 8))) (h : ∀ l ∈ L, l.length = 64) : ∀ i, i < L.length → bk L.flatten i = L.getD i [] := by
  induction L with
  | nil => intro i hi; simp at hi
  | cons x r ih =>
    intro i hi
    have hx : x.length = 64 := h x (by simp)
    cases i with
    | zero => simp [bk, hx]
    | succ i =>
      have e := ih (fun l hl => h l (by simp [hl])) i (by simpa using hi)
      rw [List.getD_cons_succ, ← e, bk, bk, List.flatten_cons, show 64 * (i + 1) = x.length + 64 * i from by omega, List.drop_append, List.drop_eq_nil_of_le (by omega : x.length ≤ x.length + 64 * i), List.nil_append, Nat.add_sub_cancel_left]
theorem flat_fulls (bs : List (BitVec 8)) : ∀ m, 64 * m ≤ bs.length → ((List.range m).map fun k => (bs.drop (64 * k)).take 64).flatten = bs.take (64 * m)
  | 0, _ => by simp
  | m + 1, h => by
    rw [List.range_succ, List.map_append, List.flatten_append, flat_fulls bs m (by omega)]
    simp only [List.map_cons, List.map_nil, List.flatten_cons, List.flatten_nil, List.append_nil]
    rw [show 64 * (m + 1) = 64 * m + 64 from by omega, List.take_add]
theorem e1_eq (rs : List (BitVec 8)) (h : rs.length < 64) : e1 rs = rs ++ ([128#8] ++ List.replicate (63 - rs.length) 0#8) := by
  rw [e1, List.set_append_right _ _ (Nat.le_refl _), Nat.sub_self, show 64 - rs.length = (63 - rs.length) + 1 from by omega, List.replicate_succ]
  rfl
def b8s (n : BitVec 64) : Nat → List (BitVec 8)
  | 0 => []
  | k + 1 => b8s n k ++ [((8#64 * n) >>> (56 - 8 * (k : Int)).toNat).setWidth 8]
theorem b8s_len (n : BitVec 64) : ∀ k, (b8s n k).length = k
  | 0 => rfl
  | k + 1 => by rw [b8s, List.length_append, b8s_len n k]; rfl
theorem LB_eq (bl : List (BitVec 8)) (n : BitVec 64) (h : bl.length = 64) : ∀ k, k ≤ 8 → LB bl n k = bl.take 56 ++ (b8s n k ++ bl.drop (56 + k))
  | 0, _ => by simp [LB, b8s]
  | k + 1, hk => by
    have hd : bl.drop (56 + k) = bl[56 + k] :: bl.drop (56 + (k + 1)) := by rw [List.drop_eq_getElem_cons (by omega)]; rfl
    rw [LB, LB_eq bl n h k (by omega), hd, List.set_append_right _ _ (by simp [h]), List.set_append_right _ _ (by simp [h, b8s_len]), b8s]
    simp [h, b8s_len]
theorem PE_eq (bs : List (BitVec 8)) (n : BitVec 64) : ∀ j, j ≤ 8 → PE bs (n * 8#64) j = PD bs (nz bs) ++ b8s n j
  | 0, _ => by simp [PE, b8s]
  | j + 1, h => by
    rw [PE, PE_eq bs n j (by omega), b8s, nb, BitVec.mul_comm, show (8 * (7 - (j : Int))).toNat = (56 - 8 * (j : Int)).toNat from by omega, List.append_assoc]
theorem pad_flat (bs : List (BitVec 8)) : PAD bs = (blks bs).flatten := by
  rw [PAD, PE_eq bs _ 8 (Nat.le_refl _), blks, List.flatten_append, fulls, flat_fulls bs _ (by omega), PD]
  have hr := rest_len bs
  have hrl : (bs.drop (64 * (bs.length / 64))).length = bs.length % 64 := by rw [List.length_drop]; omega
  generalize hrs : bs.drop (64 * (bs.length / 64)) = rs at hr hrl
  have hbs : bs = bs.take (64 * (bs.length / 64)) ++ rs := by rw [← hrs, List.take_append_drop]
  generalize hn : BitVec.ofInt 64 (bs.length : Int) = n
  have key : (eblocks rs n).flatten = rs ++ ([128#8] ++ (List.replicate (nz bs) 0#8 ++ b8s n 8)) := by
    unfold eblocks
    split
    · rename_i h56
      have hz : nz bs = 55 - rs.length := by unfold nz; omega
      rw [List.flatten_cons, List.flatten_nil, List.append_nil, LB_eq _ _ (e1_len rs (by omega)) 8 (Nat.le_refl _), e1_eq rs hr, hz]
      rw [List.drop_eq_nil_of_le (by simp; omega), List.append_nil, List.take_append, List.take_of_length_le (by omega : rs.length ≤ 56)]
      rw [List.take_append, List.take_of_length_le (by simp; omega), List.take_replicate]
      simp only [List.append_assoc, List.length_cons, List.length_nil]
      rw [show min (56 - rs.length - (0 + 1)) (63 - rs.length) = 55 - rs.length from by omega]
    · rename_i h56
      have hz : nz bs = (63 - rs.length) + 56 := by unfold nz; omega
      rw [List.flatten_cons, List.flatten_cons, List.flatten_nil, List.append_nil, LB_eq _ _ (by simp) 8 (Nat.le_refl _), e1_eq rs hr, hz, ← List.replicate_append_replicate]
      simp
  rw [key]
  conv => lhs; lhs; lhs; rw [hbs]
  simp only [List.append_assoc]
theorem msum_sha (bs : List (BitVec 8)) : MSUM bs = SHA bs := by
  have hb := blks_len bs
  have hl := flat_len (blks bs) hb
  rw [MSUM, SHA, pad_flat, hl, Nat.mul_div_cancel_left _ (by decide), RK_mixK _ (blks bs) _ (Nat.le_refl _) (bk_flat _ hb), OD_DG _ (mixK_len _ _ rfl _)]
end Sh
end Go.Proofs.YtdkkipjcmflclaaDoor
