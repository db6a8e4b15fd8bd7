/-
 The walks of package fp: elements of p.
 The walks of package fp: powers.
 The walks of package fp: powers, inverses, roots, signs.
 The walks of package fp: inverses, roots, signs, bytes.
-/
import Derived.Test.YtpnpiblphnpfiaaGreatDoorX7
import Derived.Test.YtpnpiblphnpfiaaGreatDoorX3
import Derived.Test.YtpnpiblphnpfiaaGreatDoorX6
import Derived.Test.YtpnpiblphnpfiaaGreatDoorX5
set_option maxRecDepth 100000
set_option maxHeartbeats 1000000
namespace Go.Proofs.YtpnpiblphnpfiaaGreatDoor
section
open Go.RowKit
theorem PLl : PL.length = 6 := rfl
theorem cf : TWO.length = 6 := rfl
theorem cb : ONE.length = 6 := rfl
theorem N1l : N1.length = 6 := rfl
theorem ca : IVP.length = 6 := rfl
theorem bY : HFP.length = 6 := rfl
theorem ce : RTP.length = 6 := rfl
attribute [local simp] aL ba aI aH aB bc aF aE aG PLl cf cb N1l ca bY ce
theorem rC1 {Q P : Prop} (k : Q) (h : Q → P := by intro k; (refine LY.run ?_); (repeat (first | refine bK rfl rfl rfl ?_ | refine bk rfl rfl rfl ?_ | ((refine zg rfl rfl ?_ rfl rfl rfl rfl ?_); (· simp)) | ((refine CC rfl rfl ?_ rfl rfl ?_); (· simp)) | ((refine nZ rfl rfl ?_ rfl rfl ?_); (· simp)) | ((refine oX hGF rfl rfl rfl ?_ ?_ (ak _) rfl ?_); (· simp); (· simp)) | ((refine Bg hGF rfl rfl rfl ?_ ?_ (ak _) rfl ?_); (· simp); (· simp)) | ((refine An hGF rfl rfl rfl ?_ ?_ (iS _) rfl ?_); (· simp); (· simp)) | refine go rfl rfl rfl rfl ?_)); (first | refine cn ?_ | refine LY.mk ?_); exact k) : P := h k
theorem pC1 {Q P : Prop} (k : Q) (h : Q → P := by intro k; (refine xp ?_); (refine rC1 ?_); exact k) : P := h k
abbrev EV (x : Zp) : Value := .agg ((fe x).map U64).toArray
abbrev NV (n : List (BitVec 64)) : Value := .agg (n.map U64).toArray
theorem zv27 (w : World) : (zeroValue 27).run Tryz.prog w = .ok (.agg ((List.replicate 6 (0#64)).map U64).toArray) w := (Tryz.zeroValue27 w).trans (by rfl)
theorem uE (op : BinOp) (x y : Operand) (xs ys : Array Value) (w : World) : (eqGuard op 25 x y (.agg xs) (.agg ys)).run Tryz.prog w = .ok () w := run_eqGuard_agg w op 25 x y xs ys (by kernel_rfl)
theorem vj (xs ys : List (BitVec 64)) (h : xs.length = 6) (h' : ys.length = 6) (w : World) : (binOp .eql 25 (.agg (xs.map U64).toArray) (.agg (ys.map U64).toArray)).run Tryz.prog w = .ok (.bool (decide (xs = ys))) w := nE Tryz.underlying25 Tryz.underlying24 Tryz.sizeOf24 Tryz.isAgg24 xs ys h h' w
theorem lr (x y : Zp) : decide (fe x = fe y) = decide (x = y) := decide_eq_decide.2 tp
theorem zx {x y : BitVec 64} (h : (x == y) = true) : x = y := beq_iff_eq.1 h
theorem AB {x y : BitVec 64} (h : (x == y) = false) : ¬ x = y := beq_eq_false_iff_ne.1 h
theorem ent104 : ae Tryz.prog 104 := fun _ _ => by kernel_rfl
theorem ent46 : ae Tryz.prog 46 := fun _ _ => by kernel_rfl
theorem ent188 : ae Tryz.prog 188 := fun _ _ => by kernel_rfl
theorem ent88 : ae Tryz.prog 88 := fun _ _ => by kernel_rfl
theorem ent65 : ae Tryz.prog 65 := fun _ _ => by kernel_rfl
theorem ent64 : ae Tryz.prog 64 := fun _ _ => by kernel_rfl
theorem ent87 : ae Tryz.prog 87 := fun _ _ => by kernel_rfl
theorem ent100 : ae Tryz.prog 100 := fun _ _ => by kernel_rfl
theorem ent63 : ae Tryz.prog 63 := fun _ _ => by kernel_rfl
theorem ent86 : ae Tryz.prog 86 := fun _ _ => by kernel_rfl
theorem ent123 : ae Tryz.prog 123 := fun _ _ => by kernel_rfl
theorem ent192 : ae Tryz.prog 192 := fun _ _ => by kernel_rfl
theorem ent167 : ae Tryz.prog 167 := fun _ _ => by kernel_rfl
theorem ent202 : ae Tryz.prog 202 := fun _ _ => by kernel_rfl
theorem ent203 : ae Tryz.prog 203 := fun _ _ => by kernel_rfl
theorem gx (x y : Zp) : Pure Tryz.prog Gt 63 [EV x, EV y] (EV (x * y)) := by
 refine a7 Tryz.func63 fun w hw hGF => ?_
 refine xp ?_
 refine lb fun b2 => ?_
 refine lb fun b3 => ?_
 refine la zv27 fun b4 => ?_
 refine aa ?_
 refine pC1 ?_
 refine eN hGF Tryz.isAgg25 Tryz.sizeOf25 (by simp) (fun _ h => h.g3) rfl rfl ?_
 refine az rfl rfl ent77 (fk _ _ _ (by simp) (by simp) (by simp)) rfl rfl ?_
 refine cd rfl (by simp) Tryz.underlying27 rfl Tryz.sizeOf25 zv27 rfl rfl ?_
 refine rC1 ?_
 refine rt ?_
 exact aw 4 rfl rfl rfl Tryz.isAgg27 Tryz.sizeOf27 (by simp) (fun w hw => ⟨by rw [yn], ac hw⟩)
theorem kX (n : List (BitVec 64)) (hn : n.length = 6) : Pure Tryz.prog Gt 65 [NV n] (EV (zp (V n 6))) := by
 refine a7 Tryz.func65 fun w hw hGF => ?_
 refine xp ?_
 refine lb fun b1 => ?_
 refine la zv27 fun b2 => ?_
 refine aa ?_
 refine xp ?_
 refine eN hGF Tryz.isAgg25 Tryz.sizeOf25 (by first | (simp; done) | simp [hn]) (fun _ h => h.g0) rfl rfl ?_
 refine ay 1 rfl rfl Tryz.isAgg25 Tryz.sizeOf25 (by first | (simp; done) | simp [hn]) rfl rfl ?_
 refine eN hGF Tryz.isAgg25 Tryz.sizeOf25 (by first | (simp; done) | simp [hn]) (fun _ h => h.g3) rfl rfl ?_
 refine az rfl rfl ent77 (fk _ _ _ (by first | (simp; done) | simp [hn]) (by first | (simp; done) | simp [hn]) (by first | (simp; done) | simp [hn])) rfl rfl ?_
 refine cd rfl (by first | (simp; done) | simp [hn]) Tryz.underlying27 rfl Tryz.sizeOf25 zv27 rfl rfl ?_
 refine ao 2 hGF rfl rfl rfl Tryz.sizeOf27 (by first | (simp; done) | simp [hn]) (by first | (simp; done) | simp [hn]) (ak _) rfl ?_
 refine aa ?_
 refine rt ?_
 exact aw 2 rfl rfl rfl Tryz.isAgg27 Tryz.sizeOf27 (by first | (simp; done) | simp [hn]) (fun w hw => ⟨by rw [u9], ac hw⟩)
theorem rl (n : BitVec 64) : ∀ k, V (n :: List.replicate 5 0) (k + 1) = n.toNat
 | 0 => by rw [jT, V, Nat.mul_zero, Nat.pow_zero, Nat.mul_one, Nat.zero_add]; rfl
 | k + 1 => by
  have h0 : (n :: List.replicate 5 (0 : BitVec 64)).getD (k + 1) 0 = 0 := by
   rw [List.getD_eq_getElem?_getD, List.getElem?_cons_succ, List.getElem?_replicate]
   split <;> rfl
  rw [jT, rl n k, h0, show (0 : BitVec 64).toNat = 0 from rfl, Nat.zero_mul, Nat.add_zero]
theorem yp (n : BitVec 64) : V (n :: List.replicate 5 0) 6 = n.toNat := rl n 5
theorem nC (n : BitVec 64) : Pure Tryz.prog Gt 104 [U64 n] (EV (zp n.toNat)) := by
 refine a7 Tryz.func104 fun w hw hGF => ?_
 refine xp ?_
 refine la zv27 fun b2 => ?_
 refine aa ?_
 refine pC1 ?_
 refine l4 n rfl Tryz.underlying25 Tryz.sizeOf24 zv25 rfl rfl ?_
 refine az rfl rfl ent65 (kX _ (by simp)) rfl rfl ?_
 refine rC1 ?_
 refine rt ?_
 exact aw 2 rfl rfl rfl Tryz.isAgg27 Tryz.sizeOf27 (by simp) (fun w hw => ⟨by rw [yp], ac hw⟩)
theorem nO (x y : Zp) : Pure Tryz.prog Gt 188 [EV x, EV y] (.bool (decide (x = y))) := by
 refine a7 Tryz.func188 fun w hw hGF => ?_
 refine xp ?_
 refine lb fun b2 => ?_
 refine lb fun b3 => ?_
 refine rC1 ?_
 refine pC1 ?_
 refine ah rfl rfl (fun _ => uE _ _ _ _ _ _) (fun w => vj _ _ (by simp) (by simp) w) rfl rfl ?_
 refine rC1 ?_
 refine rt ?_
 exact aV rfl rfl (fun w hw => ⟨by rw [lr], ac hw⟩)
theorem mJ (x : Zp) : Pure Tryz.prog Gt 88 [EV x] (.bool (decide (x = 0))) := by
 refine a7 Tryz.func88 fun w hw hGF => ?_
 refine xp ?_
 refine lb fun b1 => ?_
 refine rC1 ?_
 refine pC1 ?_
 refine iz zv25 Tryz.underlying25 Tryz.sizeOf24 rfl rfl ?_
 refine ah rfl rfl (fun _ => uE _ _ _ _ _ _) (fun w => vj _ _ (by simp) (by simp) w) rfl rfl ?_
 refine rC1 ?_
 refine rt ?_
 exact aV rfl rfl (fun w hw => ⟨by rw [← kF, lr], ac hw⟩)
theorem sY (x y : Zp) : Pure Tryz.prog Gt 64 [EV x, EV y] (EV (x + y)) := by
 refine a7 Tryz.func64 fun w hw hGF => ?_
 refine xp ?_
 refine lb fun b2 => ?_
 refine lb fun b3 => ?_
 refine la zv27 fun b4 => ?_
 refine aa ?_
 refine pC1 ?_
 refine az rfl rfl ent94 (fV _ _ (by simp) (by simp)) rfl rfl ?_
 refine rC1 ?_
 refine la zv25 fun b5 => ?_
 refine rC1 ?_
 refine pC1 ?_
 refine eN hGF Tryz.isAgg25 Tryz.sizeOf25 (by simp) (fun _ h => h.g3) rfl rfl ?_
 refine az rfl rfl ent95 (ez _ _ (by simp) (by simp)) rfl rfl ?_
 refine rC1 ?_
 refine la zv25 fun b7 => ?_
 refine rC1 ?_
 refine aj ?_
 refine pC1 ?_
 refine ah rfl rfl (fun _ => rfl) (fun _ => bw _ _ _) rfl rfl ?_
 refine aa ?_
 refine bZ rfl (fun hc => ?_) (fun hc => ?_)
 ·skip
  refine pC1 ?_
  refine cd rfl (by simp) Tryz.underlying27 rfl Tryz.sizeOf25 zv27 rfl rfl ?_
  refine rC1 ?_
  refine rt ?_
  exact aw 4 rfl rfl rfl Tryz.isAgg27 Tryz.sizeOf27 (by simp) (fun w hw => ⟨by rw [yC (AW (zx hc))], ac hw⟩)
 ·skip
  refine aD ?_
  refine pC1 ?_
  refine cd rfl (by simp) Tryz.underlying27 rfl Tryz.sizeOf25 zv27 rfl rfl ?_
  refine rC1 ?_
  refine rt ?_
  exact aw 4 rfl rfl rfl Tryz.isAgg27 Tryz.sizeOf27 (by simp) (fun w hw => ⟨by rw [tu (mc (nG _ _ _) (AB hc))], ac hw⟩)
theorem iK (x y : Zp) : Pure Tryz.prog Gt 87 [EV x, EV y] (EV (x - y)) := by
 refine a7 Tryz.func87 fun w hw hGF => ?_
 refine xp ?_
 refine lb fun b2 => ?_
 refine lb fun b3 => ?_
 refine la zv27 fun b4 => ?_
 refine aa ?_
 refine pC1 ?_
 refine az rfl rfl ent95 (ez _ _ (by simp) (by simp)) rfl rfl ?_
 refine rC1 ?_
 refine la zv25 fun b5 => ?_
 refine rC1 ?_
 refine aj ?_
 refine pC1 ?_
 refine ah rfl rfl (fun _ => rfl) (fun _ => bw _ _ _) rfl rfl ?_
 refine aa ?_
 refine bZ rfl (fun hc => ?_) (fun hc => ?_)
 ·skip
  refine av (E := EE []) ?_
  refine rC1 ?_
  refine eN hGF Tryz.isAgg25 Tryz.sizeOf25 (by simp) (fun _ h => h.g3) rfl rfl ?_
  refine az rfl rfl ent94 (fV _ _ (by simp) (by simp)) rfl rfl ?_
  refine rC1 ?_
  refine pC1 ?_
  refine cd rfl (by simp) Tryz.underlying27 rfl Tryz.sizeOf25 zv27 rfl rfl ?_
  refine rC1 ?_
  refine rt ?_
  exact aw 4 rfl rfl rfl Tryz.isAgg27 Tryz.sizeOf27 (by simp) (fun w hw => ⟨by rw [xq (zx hc)], ac hw⟩)
 ·skip
  refine aD ?_
  refine pC1 ?_
  refine cd rfl (by simp) Tryz.underlying27 rfl Tryz.sizeOf25 zv27 rfl rfl ?_
  refine rC1 ?_
  refine rt ?_
  exact aw 4 rfl rfl rfl Tryz.isAgg27 Tryz.sizeOf27 (by simp) (fun w hw => ⟨by rw [wy (mc (nG _ _ _) (AB hc))], ac hw⟩)
theorem lJ (x : Zp) : Pure Tryz.prog Gt 100 [EV x] (EV (-x)) := by
 refine a7 Tryz.func100 fun w hw hGF => ?_
 refine xp ?_
 refine lb fun b1 => ?_
 refine la zv27 fun b2 => ?_
 refine aa ?_
 refine xp ?_
 refine dX zv27 Tryz.underlying27 (iG Tryz.sizeOf25) rfl rfl ?_
 refine rC1 ?_
 refine az rfl rfl ent87 ((show Pure Tryz.prog Gt 87 [NV (List.replicate 6 0#64), EV x] (EV (0 - x)) by rw [← kF]; exact iK 0 x)) rfl rfl ?_
 refine rC1 ?_
 refine rt ?_
 exact aw 2 rfl rfl rfl Tryz.isAgg27 Tryz.sizeOf27 (by simp) (fun w hw => ⟨by rw [show (0 : Zp) - x = -x by grind], ac hw⟩)
theorem gY (x : Zp) : Pure Tryz.prog Gt 86 [EV x] (EV (x * x)) := by
 refine a7 Tryz.func86 fun w hw hGF => ?_
 refine xp ?_
 refine lb fun b1 => ?_
 refine la zv27 fun b2 => ?_
 refine aa ?_
 refine pC1 ?_
 refine lc ent63 (gx _ _) ?_
 refine rC1 ?_
 refine rt ?_
 exact aw 2 rfl rfl rfl Tryz.isAgg27 Tryz.sizeOf27 (by simp) (fun w hw => ⟨rfl, ac hw⟩)
end
section
open Go.RowKit
theorem ent205 : ae Tryz.prog 205 := fun _ _ => by kernel_rfl
attribute [local simp] aL ba aI aH aB bc aF aE aG PLl cf cb N1l ca bY ce aR a9
theorem rC2 {Q P : Prop} (k : Q) (h : Q → P := by intro k; (refine LY.run ?_); (repeat (first | refine bK rfl rfl rfl ?_ | refine bk rfl rfl rfl ?_ | ((refine nZ rfl rfl ?_ rfl rfl ?_); (· simp)) | ((refine Eb rfl rfl ?_ rfl rfl ?_); (· simp)) | ((refine zE hGF rfl rfl rfl ?_ ?_ (ak _) rfl ?_); (· simp); (· simp)) | refine fD rfl rfl rfl rfl rfl ?_)); (first | refine cn ?_ | refine LY.mk ?_); exact k) : P := h k
theorem pC2 {Q P : Prop} (k : Q) (h : Q → P := by intro k; (refine xp ?_); (refine rC2 ?_); exact k) : P := h k
theorem zv209 (w : World) : (zeroValue 209).run Tryz.prog w = .ok (.agg ((FL (fun _ => List.replicate 6 0#64) 16).map U64).toArray) w := (Tryz.zeroValue209 w).trans (by rfl)
theorem lK : Pure Tryz.prog Gt 104 [U64 1#64] (EV 1) := nC 1#64
theorem oy (x : Zp) : Pure Tryz.prog Gt 202 [EV x] (.agg ((SP x 16).map U64).toArray) := by
 refine a7 Tryz.func202 fun w hw hGF => ?_
 refine xp ?_
 refine lb fun b1 => ?_
 refine la zv209 fun b2 => ?_
 refine aa ?_
 refine xp ?_
 refine lc ent104 (lK) ?_
 refine ss rfl (by simp) (by decide) Tryz.underlying209 Tryz.sizeOf27 zv209 rfl rfl ?_
 refine la zv209 fun b3 => ?_
 refine rC2 ?_
 refine aj ?_
 refine pC2 ?_
 refine am ?_
 refine cp (ι := { i : Nat // 1 ≤ i ∧ i ≤ 16 }) (fun y => [(1, .pointer (some ⟨b1, 0, none⟩)), (2, .pointer (some ⟨b2, 0, none⟩)), (3, .pointer (some ⟨b3, 0, none⟩)), (4, I (y.1 : Int))]) (fun y => [(1, b1, (fe x).map U64, 27), (2, b2, (FL (fun _ => List.replicate 6 0#64) 16).map U64, 209), (3, b3, (SP x y.1).map U64, 209)]) (fun y => 16 - y.1) ⟨1, by omega⟩ hGF ⟨rfl, rfl, rfl, rfl, trivial⟩ ⟨rfl, rfl, by rw [← Cu]; rfl, trivial⟩ ?_
 rintro ⟨i, hi⟩
 dsimp only
 refine aj ?_
 refine pC2 ?_
 refine ah rfl rfl (fun _ => rfl) (fun _ => aA _ _ _) rfl rfl ?_
 refine aa ?_
 refine bZ rfl (fun hc => ?_) (fun hc => ?_)
 ·simp only [decide_eq_true_eq] at hc
  refine aD ?_
  refine aj ?_
  refine am ?_
  refine c9 (E := EE []) bi (by kernel_rfl) (by kernel_rfl) (by kernel_rfl) ?_
  refine rC2 ?_
  refine ah rfl rfl (fun _ => rfl) (fun _ => bL _ _ _ (by unfold inI; omega)) rfl rfl ?_
  refine cZ (i - 1) (6 * (i - 1)) rfl rfl Tryz.underlying209 Tryz.sizeOf27 (by omega) (by omega) (by omega) rfl rfl ?_
  refine a8 3 ((fe (x ^ (i - 1))).map U64) rfl rfl Tryz.isAgg27 Tryz.sizeOf27 (by simp) (mE x i (i - 1) (by omega) (by omega) _ rfl) rfl rfl ?_
  refine rC2 ?_
  refine lc ent63 (gx _ _) ?_
  refine cZ (i) (6 * (i)) rfl rfl Tryz.underlying209 Tryz.sizeOf27 (by omega) (by omega) (by omega) rfl rfl ?_
  refine gy 3 ((SP x (i + 1)).map U64) hGF rfl rfl rfl Tryz.sizeOf27 (by simp) (ak _) (by rw [List.length_map, List.length_map, aL, a9]; omega) (yw x i (by omega) (by omega) _ rfl) rfl ?_
  refine aa ?_
  refine av (E := EE []) ?_
  refine rC2 ?_
  refine ah rfl rfl (fun _ => rfl) (fun _ => aO _ _ _ (by unfold inI; omega)) rfl rfl ?_
  refine rC2 ?_
  repeat (refine a6 ?_)
  refine bC ?_
  exact ⟨rfl, ⟨i + 1, by omega⟩, _, by show 16 - (i + 1) < 16 - i; omega, rfl, ⟨rfl, rfl, rfl, rfl, trivial⟩, ⟨rfl, rfl, rfl, trivial⟩⟩
 ·obtain rfl : i = 16 := by simp at hc; omega
  refine bf ?_
  refine pC2 ?_
  refine rt ?_
  exact aw 2 rfl rfl rfl Tryz.isAgg209 Tryz.sizeOf209 (by simp) (fun w hw => ⟨rfl, ac hw⟩)
def RdD (bb : Nat) (e : Option Addr) (cap : Nat) (bs : List (BitVec 8)) : Cls := fun W => W.cell? ⟨bb, 0, none⟩ = some (.slice e bs.length cap) ∧ BytesAt W e bs
def NB (bs : List (BitVec 8)) : List (List Value) := (List.range (2 * bs.length)).map fun m => [U8 (NBv bs m)]
theorem pd (bs : List (BitVec 8)) : (NB bs).length = 2 * bs.length := by simp [NB]
theorem pO (bs : List (BitVec 8)) (m : Nat) (h : m < 2 * bs.length) : (NB bs)[m]? = some [U8 (NBv bs m)] := by
 rw [NB, List.getElem?_map, List.getElem?_range h]; rfl
theorem Gs (bs : List (BitVec 8)) (m : Nat) (x : List Value) (h : (NB bs)[m]? = some x) : m < 2 * bs.length ∧ x = [U8 (NBv bs m)] := by
 have hm : m < 2 * bs.length := by
  rcases Nat.lt_or_ge m (2 * bs.length) with h' | h'
  ·exact h'
  ·rw [List.getElem?_eq_none (by rw [pd]; exact h')] at h; cases h
 rw [pO bs m hm] at h
 exact ⟨hm, (Option.some.inj h).symm⟩
theorem E3 (bs : List (BitVec 8)) (i : Nat) (h : i < bs.length) : (NB bs)[2 * i]? = some [U8 (bs.getD i 0 >>> 4)] := by
 rw [pO bs _ (by omega), NBv, if_pos (by omega), show 2 * i / 2 = i by omega]
theorem EB (bs : List (BitVec 8)) (i : Nat) (h : i < bs.length) : (NB bs)[2 * i + 1]? = some [U8 (bs.getD i 0 % 16#8)] := by
 rw [pO bs _ (by omega), NBv, if_neg (by omega), show (2 * i + 1) / 2 = i by omega]
theorem lj (sv : Value) (hs : sv.cells = #[sv]) (w : World) (hw : Gt w) : Calls Tryz.prog 203 [sv].toArray w (fun e w' => ∃ b1, e = .returned (.func (.func 205) #[] #[.pointer (some ⟨b1, 0, none⟩)]) ∧ Grow w w' ∧ w.heap.size ≤ b1 ∧ OwnB w' b1 [sv] 22) := by
 have hGF : BOk Gt (pl w) := gt_low.plain hw
 refine aN (G := Gt) Tryz.func203 rfl rfl (Hp (pl w) []) (aZ (pl w) trivial ai) (ap hGF) ?_
 refine xp ?_
 refine kI 1 hGF rfl rfl rfl ?_
 intro b1
 refine rC2 ?_
 refine xp ?_
 refine ib rfl rfl rfl rfl ?_
 refine rC2 ?_
 refine rt ?_
 exact aV rfl rfl (fun w hw => ⟨b1, rfl, ac hw, (hw.own 1 b1 _ _ rfl).2.elim id False.elim, (by have := (hw.own 1 b1 _ _ rfl).1; rw [hs] at this; exact this)⟩)
theorem nj (bb : Nat) (e : Option Addr) (cap : Nat) (bs : List (BitVec 8)) (hlen : bs.length ≤ 1000000) : fO Tryz.prog Gt 205 [.pointer (some ⟨bb, 0, none⟩)] (NB bs) (RdD bb e cap bs) := by
 intro l J Jx hJ hJx hRd hGx hY w hj
 have okJ : ∀ k, BOk Gt (Bi w (fun Y => J Y k)) := fun k => ⟨fun _ _ _ h => (hRd _ _ _ h.rid).1, hJ k⟩
 have okX : ∀ k, BOk Gt (Bi w (fun Y => Jx Y k)) := fun k => ⟨fun _ _ _ h => hGx _ _ _ h.rid, hJx k⟩
 have c1 : ∀ k L w', Hp (Bi w (fun Y => J Y k)) L w' → RdD bb e cap bs w' := fun k L w' h => (hRd _ _ _ h.rid).2
 have hby := (hRd _ _ _ hj).2.2
 refine aN (G := Gt) Tryz.func205 rfl rfl (Hp (Bi w (fun Y => J Y 0)) []) (aZ (Bi w _) hj (hJ 0)) (ap (okJ 0)) ?_
 refine xp ?_
 refine bJ rfl Tryz.isAgg22 (fun w h => (c1 _ _ w h).1) rfl rfl ?_
 refine aX rfl (fun _ => au Tryz.underlying22 _ _ _ _) rfl rfl ?_
 refine rC2 ?_
 refine am ?_
 refine iC (ι := { i : Nat // i ≤ bs.length }) (fun x => [(0, .func (.yield l) #[] #[]), (1, .pointer (some ⟨bb, 0, none⟩)), (5, .slice e bs.length cap), (6, I (bs.length : Int)), (7, I (x.1 : Int))]) (fun x => Bi w (fun Y => J Y (2 * x.1))) (fun x => []) (fun x => bs.length - x.1) ⟨0, Nat.zero_le _⟩ (fun _ => okJ _) rfl ⟨rfl, rfl, rfl, rfl, rfl, trivial⟩ trivial ?_
 rintro ⟨i, hi⟩
 dsimp only
 refine xp ?_
 refine ah rfl rfl (fun _ => rfl) (fun _ => aA _ _ _) rfl rfl ?_
 refine aa ?_
 refine aj ?_
 refine bZ rfl (fun hc => ?_) (fun hc => ?_)
 ·simp only [decide_eq_true_eq] at hc
  have hi2 : i < bs.length := by omega
  refine aD ?_
  refine aj ?_
  refine am ?_
  refine xp ?_
  obtain ⟨ad, rfl, _⟩ := hby i _ (gm U8 bs 0 i (by omega))
  refine c8 i rfl rfl Tryz.underlying22 Tryz.sizeOf5 rfl (by omega) rfl rfl ?_
  refine bJ rfl Tryz.isAgg5 (fun w' h => by obtain ⟨ad', e', hc'⟩ := (c1 _ _ w' h).2 i _ (gm U8 bs 0 i (by omega)); cases e'; exact hc') rfl rfl ?_
  refine rC2 ?_
  refine se (E := EE []) 4 ?_
  refine rC2 ?_
  refine ah (v := U8 (bs.getD i 0 >>> 4)) rfl rfl (fun _ => rfl) (fun _ => p7 _ _ 4#64) rfl rfl ?_
  refine ej (hY.b (k := 2 * i) (E3 bs i (by omega)) w) (okJ _) (okX _) rfl rfl rfl rfl rfl ?_ ?_
  ·skip
   refine aa ?_
   refine ⟨EE [], ?_⟩
   refine bH rfl (fun _ => bt _) rfl rfl ?_
   refine rC2 ?_
   refine ah (v := U8 (bs.getD i 0 % 16#8)) rfl rfl (fun _ => rfl) (fun _ => pi _ _ 16#8 (by decide)) rfl rfl ?_
   refine ej (hY.b (k := 2 * i + 1) (EB bs i (by omega)) w) (okJ _) (okX _) rfl rfl rfl rfl rfl ?_ ?_
   ·skip
    refine bH rfl (fun _ => bt _) rfl rfl ?_
    refine rC2 ?_
    refine bg rfl ?_
    refine aD ?_
    refine av (E := EE []) ?_
    refine ah rfl rfl (fun _ => rfl) (fun _ => aO _ _ _ (by unfold inI; omega)) rfl rfl ?_
    refine rC2 ?_
    rw [show 2 * i + 1 + 1 = 2 * (i + 1) by omega]
    repeat (refine a6 ?_)
    refine bC ?_
    exact ⟨rfl, ⟨i + 1, by omega⟩, _, by show bs.length - (i + 1) < bs.length - i; omega, rfl, ⟨rfl, rfl, rfl, rfl, rfl, trivial⟩, trivial⟩
   ·skip
    refine bH rfl (fun _ => bt _) rfl rfl ?_
    refine rC2 ?_
    refine bF rfl ?_
    refine rt ?_
    repeat (first | refine ep ?_ | refine bX ?_ | refine eB rfl ?_ | refine aQ ?_ | refine aP ?_)
    exact dv rfl (fun w hw => ⟨⟨_, rfl⟩, .inr ⟨_, cv (hJx _) hw.rid⟩⟩)
  ·skip
   refine aa ?_
   refine ⟨EE [3000000], ?_⟩
   refine bH rfl (fun _ => bt _) rfl rfl ?_
   refine rC2 ?_
   refine aU rfl rfl rfl ?_
   refine aU rfl rfl rfl ?_
   refine aU rfl rfl rfl ?_
   refine aU rfl rfl rfl ?_
   refine aU rfl rfl rfl ?_
   refine rC2 ?_
   refine bF rfl ?_
   refine rt ?_
   repeat (first | refine ep ?_ | refine bX ?_ | refine eB rfl ?_ | refine aQ ?_ | refine aP ?_)
   exact dv rfl (fun w hw => ⟨⟨_, rfl⟩, .inr ⟨_, cv (hJx _) hw.rid⟩⟩)
 ·simp only [decide_eq_false_iff_not] at hc
  obtain rfl : i = bs.length := by omega
  refine bf ?_
  repeat (first | refine ep ?_ | refine bX ?_ | refine eB rfl ?_ | refine aQ ?_ | refine aP ?_)
  refine dY rfl (fun w hw => ⟨⟨_, rfl⟩, .inl ?_⟩)
  have := cv (hJ _) hw.rid
  rw [pd]
  exact this
end
section
open Go.RowKit
attribute [local simp] aL ba aI aH aB bc aF aE aG PLl cf cb N1l ca bY ce aR a9
theorem rC3 {Q P : Prop} (k : Q) (h : Q → P := by intro k; (refine LY.run ?_); (repeat (first | refine bK rfl rfl rfl ?_ | refine bk rfl rfl rfl ?_ | ((refine nZ rfl rfl ?_ rfl rfl ?_); (· simp)) | ((refine zE hGF rfl rfl rfl ?_ ?_ (ak _) rfl ?_); (· simp); (· simp)) | ((refine oX hGF rfl rfl rfl ?_ ?_ (ak _) rfl ?_); (· simp); (· simp)))); (first | refine cn ?_ | refine LY.mk ?_); exact k) : P := h k
theorem pN (x : Zp) (e : Option Addr) (cap : Nat) (bs : List (BitVec 8)) (hlen : bs.length ≤ 1000000) (w : World) (hw : Gt w) (hby : BytesAt w e bs) :
  Calls Tryz.prog 192 [EV x, .slice e bs.length cap].toArray w (fun r w' => r = .returned (EV (x ^ BN bs bs.length)) ∧ Grow w w') := by
 have hGF : BOk Gt (pl w) := gt_low.plain hw
 refine bE (G := Gt) Tryz.func192 rfl rfl (Hp (pl w) []) (aZ (pl w) trivial ai) (ap hGF) ?_
 refine ab (E := EE [203]) ?_
 refine lb fun b2 => ?_
 refine la zv27 fun b4 => ?_
 refine aa ?_
 refine ab (E := EE [203]) ?_
 refine rC3 ?_
 refine lc ent202 (oy _) ?_
 refine la zv209 fun b5 => ?_
 refine rC3 ?_
 refine ab (E := EE [203]) ?_
 refine cZ 0 0 rfl rfl Tryz.underlying209 Tryz.sizeOf27 rfl (by decide) rfl rfl rfl ?_
 refine a8 5 ((fe (x ^ 0)).map U64) rfl rfl Tryz.isAgg27 Tryz.sizeOf27 (by simp) (mE x 16 0 (by decide) (by decide) 0 rfl) rfl rfl ?_
 refine la zv27 fun b6 => ?_
 refine rC3 ?_
 refine aj ?_
 refine ab (E := EE [203]) ?_
 refine rC3 ?_
 refine cz rfl rfl ent203 rfl rfl (fun w' hw' => (lj _ rfl w' (hGF.g _ _ _ hw')).mono fun e' w'' h => ?_)
 obtain ⟨c1, rfl, hg, h1, ho⟩ := h
 refine ⟨_, _, rfl, ap hGF, hw'.news ai hg [(33, c1, [.slice e bs.length cap], 22)] ?_ di, ?_⟩
 ·intro n' b' c' t' hl
  rcases bh hl with ⟨_, e⟩ | ⟨_, hl⟩
  ·cases e; exact ⟨h1, ho⟩
  ·cases hl
 clear hw' hg h1 ho
 refine aa ?_
 refine am ?_
 refine db (fun _ => pl w) (fun _ _ => pl w) (fun _ => hGF) (fun _ _ => hGF) (fun _ => rfl) (fun _ _ => rfl) rfl rfl ent205 (nj c1 e cap bs hlen) (fun x hx => by obtain ⟨k, hk, rfl⟩ := List.mem_map.1 hx; rfl) rfl (fun k => [(2, b2, (fe x).map U64, 27), (4, b4, (List.replicate 6 0#64).map U64, 27), (5, b5, (SP x 16).map U64, 209), (6, b6, (fe (x ^ DN bs k)).map U64, 27), (33, c1, [.slice e bs.length cap], 22)]) (fun _ _ _ => False) ⟨rfl, rfl, rfl, by rw [DN]; rfl, rfl, trivial⟩ (fun k _ w' h => ⟨cF (n := 33) rfl rfl w' h, hby.grow (h.below (fun _ h => h))⟩) ?_ ?_ (fun _ _ _ _ _ h => h.elim)
 ·intro k v hx R hR
  obtain ⟨hk, rfl⟩ := Gs bs k v hx
  have hlt := CW bs k
  refine av (E := EE [203]) ?_
  refine rC3 ?_
  refine ⟨rfl, _, rfl, ?_⟩
  refine am ?_
  refine aj ?_
  refine ab (E := EE [203]) ?_
  refine rC3 ?_
  refine am ?_
  refine cp (ι := { i : Nat // i ≤ 4 }) (fun j => [(5, .pointer (some ⟨b5, 0, none⟩)), (6, .pointer (some ⟨b6, 0, none⟩)), (7, U8 (NBv bs k)), (15, I (j.1 : Int))]) (fun j => [(2, b2, (fe x).map U64, 27), (4, b4, (List.replicate 6 0#64).map U64, 27), (5, b5, (SP x 16).map U64, 209), (6, b6, (fe (x ^ (2 ^ j.1 * DN bs k))).map U64, 27), (33, c1, [.slice e bs.length cap], 22)]) (fun j => 4 - j.1) ⟨0, by omega⟩ (hR (pl w) rfl hGF).2.1 ⟨rfl, rfl, rfl, rfl, trivial⟩ ⟨rfl, rfl, rfl, by rw [Nat.pow_zero, Nat.one_mul]; rfl, rfl, trivial⟩ ?_
  rintro ⟨j, hj⟩
  dsimp only
  refine ab (E := EE [203]) ?_
  refine ah rfl rfl (fun _ => rfl) (fun _ => aA _ _ _) rfl rfl ?_
  refine aa ?_
  refine aj ?_
  refine bZ rfl (fun hc => ?_) (fun hc => ?_)
  ·simp only [decide_eq_true_eq] at hc
   refine aD ?_
   refine aj ?_
   refine am ?_
   refine av (E := EE [203]) ?_
   refine rC3 ?_
   refine lc ent86 (gY _) ?_
   refine ao 6 (hR (pl w) rfl hGF).2.1 rfl rfl rfl Tryz.sizeOf27 (by simp) (by simp) (ak _) rfl ?_
   refine aa ?_
   refine av (E := EE [203]) ?_
   refine ah rfl rfl (fun _ => rfl) (fun _ => aO _ _ _ (by unfold inI; omega)) rfl rfl ?_
   refine rC3 ?_
   repeat (refine a6 ?_)
   refine bC ?_
   exact ⟨rfl, ⟨j + 1, by omega⟩, _, by show 4 - (j + 1) < 4 - j; omega, rfl, ⟨rfl, rfl, rfl, rfl, trivial⟩, ⟨rfl, rfl, rfl, by rw [← yT]; rfl, rfl, trivial⟩⟩
  ·obtain rfl : j = 4 := by simp at hc; omega
   refine bf ?_
   refine c9 (E := EE [203]) bi (by kernel_rfl) (by kernel_rfl) (by kernel_rfl) ?_
   refine rC3 ?_
   refine yg (6 * (NBv bs k).toNat) rfl rfl Tryz.underlying209 Tryz.sizeOf27 hlt (by omega) rfl rfl ?_
   refine a8 5 ((fe (x ^ (NBv bs k).toNat)).map U64) rfl rfl Tryz.isAgg27 Tryz.sizeOf27 (by simp) (mE x 16 _ hlt (Nat.le_refl _) _ rfl) rfl rfl ?_
   refine az rfl rfl ent63 (w7 x bs k ▸ gx (x ^ (2 ^ 4 * DN bs k)) (x ^ (NBv bs k).toNat)) rfl rfl ?_
   refine ao 6 (hR (pl w) rfl hGF).2.1 rfl rfl rfl Tryz.sizeOf27 (by simp) (by simp) (ak _) rfl ?_
   refine aa ?_
   repeat (refine a6 ?_)
   exact ⟨_, rfl, ⟨rfl, rfl, rfl, rfl, rfl, trivial⟩⟩
 ·intro D hD
  rw [pd, vE]
  refine ab (E := EE [203]) ?_
  refine rC3 ?_
  refine ao 4 hD rfl rfl rfl Tryz.sizeOf27 (by simp) (by simp) (ak _) rfl ?_
  refine aa ?_
  refine rt ?_
  exact cr (.inl rfl) ai (aw 4 rfl rfl rfl Tryz.isAgg27 Tryz.sizeOf27 (by simp) (fun w hw => ⟨rfl, ac hw⟩))
end
section
open Go.RowKit
attribute [local simp] aL ba aI aH aB bc aF aE aG PLl cf cb N1l ca bY ce aR a9
theorem rC4 {Q P : Prop} (k : Q) (h : Q → P := by intro k; (refine LY.run ?_); (repeat (first | refine bK rfl rfl rfl ?_ | refine bk rfl rfl rfl ?_ | ((refine nZ rfl rfl ?_ rfl rfl ?_); (· simp)) | ((refine CC rfl rfl ?_ rfl rfl ?_); (· simp)) | ((refine oX hGF rfl rfl rfl ?_ ?_ (ak _) rfl ?_); (· simp); (· simp)) | ((refine Bg hGF rfl rfl rfl ?_ ?_ (ak _) rfl ?_); (· simp); (· simp)) | refine go rfl rfl rfl rfl ?_ | refine fD rfl rfl rfl rfl rfl ?_)); (first | refine cn ?_ | refine LY.mk ?_); exact k) : P := h k
theorem pC4 {Q P : Prop} (k : Q) (h : Q → P := by intro k; (refine xp ?_); (refine rC4 ?_); exact k) : P := h k
theorem CM (x : Zp) (b : Nat) (t : TypeId) (bs : List (BitVec 8)) (h48 : bs.length = 48) (w : World) (hw : Gt w) (ho : OwnB w b (bs.map U8) t) :
  Calls Tryz.prog 192 [EV x, .slice (some ⟨b, 0, none⟩) 48 48].toArray w (fun r w' => r = .returned (EV (x ^ BN bs 48)) ∧ Grow w w') := by
 have h := pN x (some ⟨b, 0, none⟩) 48 bs (by omega) w hw (BytesAt.range ho.range)
 rw [h48] at h
 exact h
theorem nF (a : Option Addr) (len cap : Nat) (bs : List (BitVec 8)) (hl : bs.length = len) (h : len ≤ 48) (w : World) (hw : Gt w) (hby : BytesAt w a bs) :
  Calls Tryz.prog 62 [.slice a len cap].toArray w (fun e w' => e = .returned (.tuple #[NV (FRs bs bs.length), .bool true]) ∧ Grow w w') := by
 subst hl
 exact (jO a cap bs w hw hby).mono fun e w' ⟨he, hg⟩ => ⟨by rw [he, if_neg (by omega)], hg⟩
theorem ox (x : Zp) (n : List (BitVec 64)) (hn : n.length = 6) : Pure Tryz.prog Gt 167 [EV x, NV n] (EV (x ^ V n 6)) := by
 refine a7 Tryz.func167 fun w hw hGF => ?_
 refine xp ?_
 refine lb fun b2 => ?_
 refine lb fun b3 => ?_
 refine la zv27 fun b4 => ?_
 refine aa ?_
 refine xp ?_
 refine ay 3 rfl rfl Tryz.isAgg25 Tryz.sizeOf25 (by first | (simp; done) | simp [hn]) rfl rfl ?_
 refine az rfl rfl ent80 (mO _ (by first | (simp; done) | simp [hn])) rfl rfl ?_
 refine la zv115 fun b5 => ?_
 refine ao 5 hGF rfl rfl rfl Tryz.sizeOf115 (by first | (simp; done) | simp [hn]) (by first | (simp; done) | simp [hn]) (iS _) rfl ?_
 refine aa ?_
 refine bl (E := EE []) bi (by kernel_rfl) (by kernel_rfl) (by kernel_rfl) ?_
 refine ay 2 rfl rfl Tryz.isAgg27 Tryz.sizeOf27 (by first | (simp; done) | simp [hn]) rfl rfl ?_
 refine fq (l := 0) (h' := 48) rfl Tryz.underlying115 Tryz.sizeOf5 rfl rfl (by omega) (by omega) rfl rfl ?_
 refine bz rfl rfl ent192 (fun w hC hG => CM x _ _ (BYs n 48) (by first | (simp; done) | simp [hn]) w hG (hC.own 5 _ _ _ rfl).1) rfl rfl ?_
 refine ao 4 hGF rfl rfl rfl Tryz.sizeOf27 (by first | (simp; done) | simp [hn]) (by first | (simp; done) | simp [hn]) (ak _) rfl ?_
 refine aa ?_
 refine rt ?_
 exact aw 4 rfl rfl rfl Tryz.isAgg27 Tryz.sizeOf27 (by first | (simp; done) | simp [hn]) (fun w hw => ⟨by rw [DB n hn 48 rfl], ac hw⟩)
theorem sr (x : Zp) : Pure Tryz.prog Gt 123 [EV x] (EV (x ^ (PP - 2))) := by
 refine a7 Tryz.func123 fun w hw hGF => ?_
 refine xp ?_
 refine lb fun b1 => ?_
 refine la zv27 fun b2 => ?_
 refine aa ?_
 refine pC4 ?_
 refine eN hGF Tryz.isAgg25 Tryz.sizeOf25 (by simp) (fun _ h => h.g4) rfl rfl ?_
 refine az rfl rfl ent167 (ox _ _ (by simp)) rfl rfl ?_
 refine rC4 ?_
 refine rt ?_
 exact aw 2 rfl rfl rfl Tryz.isAgg27 Tryz.sizeOf27 (by simp) (fun w hw => ⟨by rw [← yc], ac hw⟩)
theorem eI (e : Option Addr) (cap : Nat) (bs : List (BitVec 8)) (w : World) (hw : Gt w) (hby : BytesAt w e bs) :
  Calls Tryz.prog 46 [.slice e bs.length cap].toArray w (fun r w' => r = .returned (.tuple #[EV (FV bs), .bool (FO bs)]) ∧ Grow w w') := by
 have hGF : BOk Gt (pl w) := gt_low.plain hw
 refine aN (G := Gt) Tryz.func46 rfl rfl (Hp (pl w) []) (aZ (pl w) trivial ai) (ap hGF) ?_
 refine xp ?_
 refine la zv27 fun b2 => ?_
 refine rC4 ?_
 refine aj ?_
 refine pC4 ?_
 refine aX rfl (fun _ => au Tryz.underlying22 _ _ _ _) rfl rfl ?_
 refine ah rfl rfl (fun _ => rfl) (fun _ => sR _ _ _) rfl rfl ?_
 refine aa ?_
 refine bZ rfl (fun hc => ?_) (fun hc => ?_)
 ·have hc : ¬ bs.length = 48 := by simp at hc; omega
  refine xp ?_
  refine dX zv27 Tryz.underlying27 (iG Tryz.sizeOf25) rfl rfl ?_
  refine rC4 ?_
  refine rt ?_
  exact fM 2 rfl rfl rfl rfl Tryz.isAgg27 Tryz.sizeOf27 (by simp) (fun w hw => ⟨by rw [FV, FO, if_neg (fun h => hc h.1), decide_eq_false (fun h => hc h.1), ← kF] <;> rfl, ac hw⟩)
 ·have h48 : bs.length = 48 := by simp at hc; omega
  clear hc
  refine aD ?_
  refine pC4 ?_
  refine bz rfl rfl ent62 (fun w' hC hG => nF e bs.length cap bs rfl (by omega) w' hG (hby.grow (ac hC))) rfl rfl ?_
  refine rC4 ?_
  refine la zv25 fun b4 => ?_
  refine rC4 ?_
  refine aj ?_
  refine pC4 ?_
  refine bH rfl (fun _ => bt _) rfl rfl ?_
  refine rC4 ?_
  refine eN hGF Tryz.isAgg25 Tryz.sizeOf25 (by simp) (fun _ h => h.g3) rfl rfl ?_
  refine az rfl rfl ent103 (iO _ _ (by simp) (by simp)) rfl rfl ?_
  refine bH rfl (fun _ => bt _) rfl rfl ?_
  refine rC4 ?_
  refine bZ rfl (fun hc => ?_) (fun hc => ?_)
  ·have e0 : V (FRs bs bs.length) 6 = BN bs 48 := by rw [nV bs (by omega), h48]
   have hl : ¬ BN bs 48 < PP := by rw [ma, iM, e0] at hc; simpa using hc
   clear hc
   refine xp ?_
   refine dX zv27 Tryz.underlying27 (iG Tryz.sizeOf25) rfl rfl ?_
   refine rC4 ?_
   refine rt ?_
   exact fM 2 rfl rfl rfl rfl Tryz.isAgg27 Tryz.sizeOf27 (by simp) (fun w hw => ⟨by rw [FV, FO, if_neg (fun h => hl h.2), decide_eq_false (fun h => hl h.2), ← kF] <;> rfl, ac hw⟩)
  ·have e0 : V (FRs bs bs.length) 6 = BN bs 48 := by rw [nV bs (by omega), h48]
   have hl : BN bs 48 < PP := by rw [ma, iM, e0] at hc; simpa using hc
   clear hc
   refine aD ?_
   refine pC4 ?_
   refine az rfl rfl ent65 (kX _ (by simp)) rfl rfl ?_
   refine rC4 ?_
   refine rt ?_
   exact fM 2 rfl rfl rfl rfl Tryz.isAgg27 Tryz.sizeOf27 (by simp) (fun w hw => ⟨by rw [FV, FO, if_pos ⟨h48, hl⟩, decide_eq_true ⟨h48, hl⟩, nV bs (by omega), h48] <;> rfl, ac hw⟩)
end
end Go.Proofs.YtpnpiblphnpfiaaGreatDoor
