/-
 The walks of sums, differences, order and products.
 The walks of what is left by a modulus.
 The walks of what is left by a modulus, bit by bit.
 The walk of Montgomery's product.
 The walks of bytes and bits.
-/
import Derived.Test.YtpnpiblphnpfiaaGreatDoorX4
import Derived.Test.YtpnpiblphnpfiaaGreatDoorX5
set_option maxRecDepth 100000
set_option maxHeartbeats 1000000
namespace Go.Proofs.YtpnpiblphnpfiaaGreatDoor
section
open Go.RowKit
theorem rN1 {Q P : Prop} (k : Q) (h : Q → P := by intro k; (refine LY.run ?_); (repeat (first | refine bK rfl rfl rfl ?_ | refine bk rfl rfl rfl ?_ | refine go rfl rfl rfl rfl ?_)); (first | refine cn ?_ | refine LY.mk ?_); exact k) : P := h k
theorem pN1 {Q P : Prop} (k : Q) (h : Q → P := by intro k; (refine xp ?_); (refine rN1 ?_); exact k) : P := h k
def uu : Array Value → Sem Value := fun args => do
 let (x, y, b) ← Extern.MathBitsCarry.three "Sub64" args
 pure (Extern.MathBitsCarry.pair ((x + Extern.MathBitsCarry.m64 - y - b) % Extern.MathBitsCarry.m64) (if x < y + b then 1 else 0))
theorem jY (x y c : BitVec 64) (hc : c.toNat ≤ 1) (w : World) : (callFunc 147 [U64 x, U64 y, U64 c].toArray).run Tryz.prog w = .ok (.value (.tuple #[U64 (ADC x y c).1, U64 (ADC x y c).2])) w := by
 show (callFunc 147 #[U64 x, U64 y, U64 c]).run Tryz.prog w = _
 rw [run_callFunc_extern Tryz.func147 (by kernel_rfl) (by kernel_rfl) (by kernel_rfl) (e := add64Entry) (by kernel_rfl)]
 simp only [U64]
 rw [run_add64 _ _ _ (by omega) (by omega) (by omega) (by omega)]
 have h1 := x.isLt
 have h2 := y.isLt
 have e1 : ((x.toNat : Int) + (y.toNat : Int) + (c.toNat : Int)) % 18446744073709551616 = ((ADC x y c).1.toNat : Int) := by simp only [ADC, BitVec.toNat_ofNat]; omega
 have e2 : ((x.toNat : Int) + (y.toNat : Int) + (c.toNat : Int)) / 18446744073709551616 = ((ADC x y c).2.toNat : Int) := by simp only [ADC, BitVec.toNat_ofNat]; omega
 rw [e1, e2]
 rfl
theorem EX (x y c : BitVec 64) (hc : c.toNat ≤ 1) (w : World) : (callFunc 156 [U64 x, U64 y, U64 c].toArray).run Tryz.prog w = .ok (.value (.tuple #[U64 (SBB x y c).1, U64 (SBB x y c).2])) w := by
 show (callFunc 156 #[U64 x, U64 y, U64 c]).run Tryz.prog w = _
 rw [run_callFunc_extern Tryz.func156 (by kernel_rfl) (by kernel_rfl) (by kernel_rfl) (e := uu) (by kernel_rfl)]
 have key : ∀ b : Nat, b ≤ 1 → (uu #[.int .u64 (x.toNat : Int), .int .u64 (y.toNat : Int), .int .u64 (b : Int)]).run Tryz.prog w =
   .ok (.tuple #[.int .u64 (((x.toNat + 18446744073709551616 - y.toNat - b) % 18446744073709551616 : Nat) : Int), .int .u64 ((if x.toNat < y.toNat + b then 1 else 0 : Nat) : Int)]) w := fun b hb => by
  have : b = 0 ∨ b = 1 := by omega
  rcases this with rfl | rfl <;> rfl
 simp only [U64]
 rw [key _ hc]
 simp only [Result.andThen, SBB, BitVec.toNat_ofNat]
 congr 5
 split <;> rfl
theorem ent94 : ae Tryz.prog 94 := fun _ _ => by kernel_rfl
theorem ent95 : ae Tryz.prog 95 := fun _ _ => by kernel_rfl
theorem ent103 : ae Tryz.prog 103 := fun _ _ => by kernel_rfl
theorem ent144 : ae Tryz.prog 144 := fun _ _ => by kernel_rfl
theorem ent77 : ae Tryz.prog 77 := fun _ _ => by kernel_rfl
theorem ent62 : ae Tryz.prog 62 := fun _ _ => by kernel_rfl
theorem ent80 : ae Tryz.prog 80 := fun _ _ => by kernel_rfl
theorem ent146 : ae Tryz.prog 146 := fun _ _ => by kernel_rfl
theorem ent186 : ae Tryz.prog 186 := fun _ _ => by kernel_rfl
theorem ent185 : ae Tryz.prog 185 := fun _ _ => by kernel_rfl
theorem ent148 : ae Tryz.prog 148 := fun _ _ => by kernel_rfl
theorem ent145 : ae Tryz.prog 145 := fun _ _ => by kernel_rfl
theorem ent199 : ae Tryz.prog 199 := fun _ _ => by kernel_rfl
theorem zv25 (w : World) : (zeroValue 25).run Tryz.prog w = .ok (.agg ((List.replicate 6 (0#64)).map U64).toArray) w := (Tryz.zeroValue25 w).trans (by rfl)
theorem zv168 (w : World) : (zeroValue 168).run Tryz.prog w = .ok (.agg ((List.replicate 12 (0#64)).map U64).toArray) w := (Tryz.zeroValue168 w).trans (by rfl)
theorem zv115 (w : World) : (zeroValue 115).run Tryz.prog w = .ok (.agg ((List.replicate 48 (0#8)).map U8).toArray) w := (Tryz.zeroValue115 w).trans (by rfl)
theorem fV (a b : List (BitVec 64)) (ha : a.length = 6) (hb : b.length = 6) : Pure Tryz.prog Gt 94 [.agg ((a).map U64).toArray, .agg ((b).map U64).toArray] (.tuple #[.agg (((AS a b 6).1).map U64).toArray, U64 (AS a b 6).2]) := by
 refine a7 Tryz.func94 fun w hw hGF => ?_
 refine xp ?_
 refine lb fun b2 => ?_
 refine lb fun b3 => ?_
 refine la zv25 fun b4 => ?_
 refine rN1 ?_
 refine xp ?_
 refine la zv25 fun b6 => ?_
 refine aa ?_
 refine pN1 ?_
 refine aj ?_
 refine pN1 ?_
 refine am ?_
 refine cp (ι := { i : Nat // i ≤ 6 }) (fun x => [(2, .pointer (some ⟨b2, 0, none⟩)), (3, .pointer (some ⟨b3, 0, none⟩)), (4, .pointer (some ⟨b4, 0, none⟩)), (6, .pointer (some ⟨b6, 0, none⟩)), (7, U64 (AS a b x.1).2), (9, I (x.1 : Int))]) (fun x => [(2, b2, a.map U64, 25), (3, b3, b.map U64, 25), (4, b4, (List.replicate 6 0#64).map U64, 25), (6, b6, (AS a b x.1).1.map U64, 25)]) (fun x => 6 - x.1) ⟨0, by omega⟩ hGF ⟨rfl, rfl, rfl, rfl, rfl, rfl, trivial⟩ ⟨rfl, rfl, rfl, rfl, trivial⟩ ?_
 rintro ⟨i, hi⟩
 dsimp only
 refine xp ?_
 refine ah rfl rfl (fun _ => rfl) (fun _ => aA _ _ _) rfl rfl ?_
 refine aa ?_
 refine aj ?_
 refine bZ rfl (fun hc => ?_) (fun hc => ?_)
 ·simp only [decide_eq_true_eq] at hc
  refine aD ?_
  refine aj ?_
  refine am ?_
  refine pN1 ?_
  refine c9 (E := EE []) bi (by kernel_rfl) (by kernel_rfl) (by kernel_rfl) ?_
  refine rN1 ?_
  refine bm (i) rfl rfl Tryz.underlying25 Tryz.sizeOf24 (by omega) (by omega) rfl rfl ?_
  refine bj 2 U64 0 rfl rfl Tryz.isAgg24 (by rw [ha]; omega) rfl rfl ?_
  refine rN1 ?_
  refine bm (i) rfl rfl Tryz.underlying25 Tryz.sizeOf24 (by omega) (by omega) rfl rfl ?_
  refine bj 3 U64 0 rfl rfl Tryz.isAgg24 (by rw [hb]; omega) rfl rfl ?_
  refine rN1 ?_
  refine eQ rfl rfl (fun w => jY _ _ _ (y8 a b i) w) rfl rfl ?_
  refine rN1 ?_
  refine bm (i) rfl rfl Tryz.underlying25 Tryz.sizeOf24 (by omega) (by omega) rfl rfl ?_
  refine cw 6 U64 hGF rfl rfl rfl Tryz.sizeOf24 rfl (by rw [aI]; omega) rfl ?_
  refine rN1 ?_
  refine av (E := EE []) ?_
  refine ah rfl rfl (fun _ => rfl) (fun _ => aO _ _ _ (by unfold inI; omega)) rfl rfl ?_
  refine rN1 ?_
  repeat (refine a6 ?_)
  refine bC ?_
  exact ⟨rfl, ⟨i + 1, by omega⟩, _, by show 6 - (i + 1) < 6 - i; omega, rfl, ⟨rfl, rfl, rfl, rfl, rfl, rfl, trivial⟩, ⟨rfl, rfl, rfl, rfl, trivial⟩⟩
 ·obtain rfl : i = 6 := by simp at hc; omega
  refine bf ?_
  refine xp ?_
  refine ay 6 rfl rfl Tryz.isAgg25 Tryz.sizeOf25 (by rw [List.length_map, aI]) rfl rfl ?_
  refine rN1 ?_
  refine ao 4 hGF rfl rfl rfl Tryz.sizeOf25 (by rw [List.length_map, aI]) (by rw [List.length_map, List.length_replicate]) (ak _) rfl ?_
  refine rN1 ?_
  refine rt ?_
  exact fM 4 rfl rfl rfl rfl Tryz.isAgg25 Tryz.sizeOf25 (by rw [List.length_map, aI]) (fun w hw => ⟨rfl, ac hw⟩)
theorem ez (a b : List (BitVec 64)) (ha : a.length = 6) (hb : b.length = 6) : Pure Tryz.prog Gt 95 [.agg ((a).map U64).toArray, .agg ((b).map U64).toArray] (.tuple #[.agg (((SS a b 6).1).map U64).toArray, U64 (SS a b 6).2]) := by
 refine a7 Tryz.func95 fun w hw hGF => ?_
 refine xp ?_
 refine lb fun b2 => ?_
 refine lb fun b3 => ?_
 refine la zv25 fun b4 => ?_
 refine rN1 ?_
 refine xp ?_
 refine la zv25 fun b6 => ?_
 refine aa ?_
 refine pN1 ?_
 refine aj ?_
 refine pN1 ?_
 refine am ?_
 refine cp (ι := { i : Nat // i ≤ 6 }) (fun x => [(2, .pointer (some ⟨b2, 0, none⟩)), (3, .pointer (some ⟨b3, 0, none⟩)), (4, .pointer (some ⟨b4, 0, none⟩)), (6, .pointer (some ⟨b6, 0, none⟩)), (7, U64 (SS a b x.1).2), (9, I (x.1 : Int))]) (fun x => [(2, b2, a.map U64, 25), (3, b3, b.map U64, 25), (4, b4, (List.replicate 6 0#64).map U64, 25), (6, b6, (SS a b x.1).1.map U64, 25)]) (fun x => 6 - x.1) ⟨0, by omega⟩ hGF ⟨rfl, rfl, rfl, rfl, rfl, rfl, trivial⟩ ⟨rfl, rfl, rfl, rfl, trivial⟩ ?_
 rintro ⟨i, hi⟩
 dsimp only
 refine xp ?_
 refine ah rfl rfl (fun _ => rfl) (fun _ => aA _ _ _) rfl rfl ?_
 refine aa ?_
 refine aj ?_
 refine bZ rfl (fun hc => ?_) (fun hc => ?_)
 ·simp only [decide_eq_true_eq] at hc
  refine aD ?_
  refine aj ?_
  refine am ?_
  refine pN1 ?_
  refine c9 (E := EE []) bi (by kernel_rfl) (by kernel_rfl) (by kernel_rfl) ?_
  refine rN1 ?_
  refine bm (i) rfl rfl Tryz.underlying25 Tryz.sizeOf24 (by omega) (by omega) rfl rfl ?_
  refine bj 2 U64 0 rfl rfl Tryz.isAgg24 (by rw [ha]; omega) rfl rfl ?_
  refine rN1 ?_
  refine bm (i) rfl rfl Tryz.underlying25 Tryz.sizeOf24 (by omega) (by omega) rfl rfl ?_
  refine bj 3 U64 0 rfl rfl Tryz.isAgg24 (by rw [hb]; omega) rfl rfl ?_
  refine rN1 ?_
  refine eQ rfl rfl (fun w => EX _ _ _ (nG a b i) w) rfl rfl ?_
  refine rN1 ?_
  refine bm (i) rfl rfl Tryz.underlying25 Tryz.sizeOf24 (by omega) (by omega) rfl rfl ?_
  refine cw 6 U64 hGF rfl rfl rfl Tryz.sizeOf24 rfl (by rw [aH]; omega) rfl ?_
  refine rN1 ?_
  refine av (E := EE []) ?_
  refine ah rfl rfl (fun _ => rfl) (fun _ => aO _ _ _ (by unfold inI; omega)) rfl rfl ?_
  refine rN1 ?_
  repeat (refine a6 ?_)
  refine bC ?_
  exact ⟨rfl, ⟨i + 1, by omega⟩, _, by show 6 - (i + 1) < 6 - i; omega, rfl, ⟨rfl, rfl, rfl, rfl, rfl, rfl, trivial⟩, ⟨rfl, rfl, rfl, rfl, trivial⟩⟩
 ·obtain rfl : i = 6 := by simp at hc; omega
  refine bf ?_
  refine xp ?_
  refine ay 6 rfl rfl Tryz.isAgg25 Tryz.sizeOf25 (by rw [List.length_map, aH]) rfl rfl ?_
  refine rN1 ?_
  refine ao 4 hGF rfl rfl rfl Tryz.sizeOf25 (by rw [List.length_map, aH]) (by rw [List.length_map, List.length_replicate]) (ak _) rfl ?_
  refine rN1 ?_
  refine rt ?_
  exact fM 4 rfl rfl rfl rfl Tryz.isAgg25 Tryz.sizeOf25 (by rw [List.length_map, aH]) (fun w hw => ⟨rfl, ac hw⟩)
theorem iO (a b : List (BitVec 64)) (ha : a.length = 6) (hb : b.length = 6) : Pure Tryz.prog Gt 103 [.agg ((a).map U64).toArray, .agg ((b).map U64).toArray] (.bool (LT a b 6)) := by
 refine a7 Tryz.func103 fun w hw hGF => ?_
 refine xp ?_
 refine lb fun b2 => ?_
 refine lb fun b3 => ?_
 refine rN1 ?_
 refine fB ?_
 refine aj ?_
 refine fA ?_
 refine aj ?_
 refine pN1 ?_
 refine am ?_
 refine cp (ι := { i : Nat // i ≤ 6 ∧ LT a b 6 = LT a b i }) (fun x => [(2, .pointer (some ⟨b2, 0, none⟩)), (3, .pointer (some ⟨b3, 0, none⟩)), (4, .bool false), (5, I ((x.1 : Int) - 1))]) (fun x => [(2, b2, a.map U64, 25), (3, b3, b.map U64, 25)]) (fun x => x.1) ⟨6, by omega, rfl⟩ hGF ⟨rfl, rfl, rfl, rfl, trivial⟩ ⟨rfl, rfl, trivial⟩ ?_
 rintro ⟨i, hi, hlt⟩
 dsimp only
 refine aj ?_
 refine pN1 ?_
 refine ah rfl rfl (fun _ => rfl) (fun _ => gu _ _ _) rfl rfl ?_
 refine aa ?_
 refine bZ rfl (fun hc => ?_) (fun hc => ?_)
 ·simp only [decide_eq_true_eq] at hc
  obtain ⟨k, rfl⟩ : ∃ k, i = k + 1 := ⟨i - 1, by omega⟩
  refine aD ?_
  refine aj ?_
  refine am ?_
  refine am ?_
  refine bl (E := EE []) bi (by kernel_rfl) (by kernel_rfl) (by kernel_rfl) ?_
  refine rN1 ?_
  refine bm (k) rfl rfl Tryz.underlying25 Tryz.sizeOf24 (by omega) (by omega) rfl rfl ?_
  refine bj 2 U64 0 rfl rfl Tryz.isAgg24 (by rw [ha]; omega) rfl rfl ?_
  refine rN1 ?_
  refine bm (k) rfl rfl Tryz.underlying25 Tryz.sizeOf24 (by omega) (by omega) rfl rfl ?_
  refine bj 3 U64 0 rfl rfl Tryz.isAgg24 (by rw [hb]; omega) rfl rfl ?_
  refine ah rfl rfl (fun _ => rfl) (fun _ => nT _ _ _) rfl rfl ?_
  refine rN1 ?_
  refine bZ rfl (fun hc => ?_) (fun hc => ?_)
  ·simp only [decide_eq_true_eq] at hc
   have hfin : LT a b 6 = true := by rw [hlt, LT, if_pos hc]
   refine pN1 ?_
   refine cG ?_
   repeat (first | refine aQ ?_ | refine aP ?_ | refine bO ?_)
   exact aV rfl rfl (fun w hw => ⟨by rw [hfin]; rfl, ac hw⟩)
  ·simp only [decide_eq_false_iff_not] at hc
   have hc1 := hc
   refine bl (E := EE []) bi (by kernel_rfl) (by kernel_rfl) (by kernel_rfl) ?_
   refine rN1 ?_
   refine bm (k) rfl rfl Tryz.underlying25 Tryz.sizeOf24 (by omega) (by omega) rfl rfl ?_
   refine bj 2 U64 0 rfl rfl Tryz.isAgg24 (by rw [ha]; omega) rfl rfl ?_
   refine rN1 ?_
   refine bm (k) rfl rfl Tryz.underlying25 Tryz.sizeOf24 (by omega) (by omega) rfl rfl ?_
   refine bj 3 U64 0 rfl rfl Tryz.isAgg24 (by rw [hb]; omega) rfl rfl ?_
   refine ah rfl rfl (fun _ => rfl) (fun _ => nN _ _ _) rfl rfl ?_
   refine rN1 ?_
   refine bZ rfl (fun hc => ?_) (fun hc => ?_)
   ·simp only [decide_eq_true_eq] at hc
    have hfin : LT a b 6 = false := by rw [hlt, LT, if_neg hc1, if_pos hc]
    refine bf ?_
    refine pN1 ?_
    refine cG ?_
    repeat (first | refine aQ ?_ | refine aP ?_ | refine bO ?_)
    exact aV rfl rfl (fun w hw => ⟨by rw [hfin]; rfl, ac hw⟩)
   ·simp only [decide_eq_false_iff_not] at hc
    refine aD ?_
    refine av (E := EE []) ?_
    refine rN1 ?_
    refine ah (v := I ((k : Int) - 1)) rfl rfl (fun _ => rfl) (fun _ => (bL _ _ _ (by unfold inI; omega)).trans (by rw [show (((k + 1 : Nat) : Int) - 1) - 1 = (k : Int) - 1 by omega])) rfl rfl ?_
    refine rN1 ?_
    repeat (refine a6 ?_)
    refine bC ?_
    exact ⟨rfl, ⟨k, by omega, by rw [hlt, LT, if_neg hc1, if_neg hc]⟩, _, by show k < k + 1; omega, rfl, ⟨rfl, rfl, rfl, rfl, trivial⟩, ⟨rfl, rfl, trivial⟩⟩
 ·simp only [decide_eq_false_iff_not] at hc
  obtain rfl : i = 0 := by omega
  have hfin : LT a b 6 = false := hlt
  refine bf ?_
  refine pN1 ?_
  refine cG ?_
  repeat (first | refine aQ ?_ | refine aP ?_ | refine bO ?_)
  exact aV rfl rfl (fun w hw => ⟨by rw [hfin]; rfl, ac hw⟩)
theorem pq (x y : BitVec 64) : Pure Tryz.prog Gt 186 [U64 x, U64 y] (.tuple #[U64 (MH x y), U64 (MLo x y)]) := by
 refine a7 Tryz.func186 fun w hw hGF => ?_
 refine pN1 ?_
 refine pN1 ?_
 refine ah rfl rfl (fun _ => rfl) (fun _ => dz _ _ _) rfl rfl ?_
 refine rN1 ?_
 refine pN1 ?_
 refine ah rfl rfl (fun _ => rfl) (fun _ => cD _ _ _) rfl rfl ?_
 refine rN1 ?_
 refine pN1 ?_
 refine ah rfl rfl (fun _ => rfl) (fun _ => dz _ _ _) rfl rfl ?_
 refine rN1 ?_
 refine pN1 ?_
 refine ah rfl rfl (fun _ => rfl) (fun _ => cD _ _ _) rfl rfl ?_
 refine rN1 ?_
 refine pN1 ?_
 refine ah rfl rfl (fun _ => rfl) (fun _ => ci _ _ _) rfl rfl ?_
 refine rN1 ?_
 refine pN1 ?_
 refine ah rfl rfl (fun _ => rfl) (fun _ => ci _ _ _) rfl rfl ?_
 refine rN1 ?_
 refine ah rfl rfl (fun _ => rfl) (fun _ => cD _ _ _) rfl rfl ?_
 refine ah rfl rfl (fun _ => rfl) (fun _ => cE _ _ _) rfl rfl ?_
 refine rN1 ?_
 refine pN1 ?_
 refine ah rfl rfl (fun _ => rfl) (fun _ => dz _ _ _) rfl rfl ?_
 refine rN1 ?_
 refine pN1 ?_
 refine ah rfl rfl (fun _ => rfl) (fun _ => cD _ _ _) rfl rfl ?_
 refine rN1 ?_
 refine pN1 ?_
 refine ah rfl rfl (fun _ => rfl) (fun _ => ci _ _ _) rfl rfl ?_
 refine ah rfl rfl (fun _ => rfl) (fun _ => cE _ _ _) rfl rfl ?_
 refine rN1 ?_
 refine pN1 ?_
 refine ah rfl rfl (fun _ => rfl) (fun _ => ci _ _ _) rfl rfl ?_
 refine rN1 ?_
 refine ah rfl rfl (fun _ => rfl) (fun _ => cE _ _ _) rfl rfl ?_
 refine rN1 ?_
 refine ah rfl rfl (fun _ => rfl) (fun _ => cD _ _ _) rfl rfl ?_
 refine ah rfl rfl (fun _ => rfl) (fun _ => cE _ _ _) rfl rfl ?_
 refine rN1 ?_
 refine pN1 ?_
 refine ah rfl rfl (fun _ => rfl) (fun _ => ci _ _ _) rfl rfl ?_
 refine rN1 ?_
 refine rt ?_
 exact qC rfl rfl rfl (fun w hw => ⟨by rw [← FU, ← BO]; rfl, ac hw⟩)
theorem cQ (x y c d : BitVec 64) : Pure Tryz.prog Gt 146 [U64 x, U64 y, U64 c, U64 d] (.tuple #[U64 (MA x y c d).1, U64 (MA x y c d).2]) := by
 refine a7 Tryz.func146 fun w hw hGF => ?_
 refine pN1 ?_
 refine pN1 ?_
 refine lc ent186 (pq _ _) ?_
 refine rN1 ?_
 refine pN1 ?_
 refine eQ rfl rfl (fun w => jY _ _ _ (by decide) w) rfl rfl ?_
 refine rN1 ?_
 refine pN1 ?_
 refine ah rfl rfl (fun _ => rfl) (fun _ => cE _ _ _) rfl rfl ?_
 refine rN1 ?_
 refine pN1 ?_
 refine eQ rfl rfl (fun w => jY _ _ _ (by decide) w) rfl rfl ?_
 refine rN1 ?_
 refine pN1 ?_
 refine ah rfl rfl (fun _ => rfl) (fun _ => cE _ _ _) rfl rfl ?_
 refine rN1 ?_
 refine rt ?_
 exact qC rfl rfl rfl (fun w hw => ⟨rfl, ac hw⟩)
end
section
open Go.RowKit
theorem rN3 {Q P : Prop} (k : Q) (h : Q → P := by intro k; (refine LY.run ?_); (repeat (first | refine bK rfl rfl rfl ?_ | refine bk rfl rfl rfl ?_ | refine go rfl rfl rfl rfl ?_ | refine fD rfl rfl rfl rfl rfl ?_)); (first | refine cn ?_ | refine LY.mk ?_); exact k) : P := h k
theorem pN3 {Q P : Prop} (k : Q) (h : Q → P := by intro k; (refine xp ?_); (refine rN3 ?_); exact k) : P := h k
theorem eqg (op : BinOp) (x y : Operand) (xs ys : Array Value) (w : World) : (eqGuard op 25 x y (.agg xs) (.agg ys)).run Tryz.prog w = .ok () w := run_eqGuard_agg w op 25 x y xs ys (by kernel_rfl)
theorem eq23 (xs ys : List (BitVec 64)) (h : xs.length = 6) (h' : ys.length = 6) (w : World) : (binOp .eql 25 (.agg (xs.map U64).toArray) (.agg (ys.map U64).toArray)).run Tryz.prog w = .ok (.bool (decide (xs = ys))) w := nE Tryz.underlying25 Tryz.underlying24 Tryz.sizeOf24 Tryz.isAgg24 xs ys h h' w
theorem di {n : Nat} {b1 : Nat} {c1 : List Value} {t1 : TypeId} : ∀ i j b c t c' t', lkB [(n, b1, c1, t1)] i = some (b, c, t) → lkB [(n, b1, c1, t1)] j = some (b, c', t') → i = j := by
 intro i j b c t c' t' h1 h2
 rcases bh h1 with ⟨e1, x1⟩ | ⟨_, h1⟩
 ·rcases bh h2 with ⟨e2, x2⟩ | ⟨_, h2⟩
  ·exact e1.trans e2.symm
  ·cases h2
 ·cases h1
theorem cv {J : (Nat → Prop) → World → Prop} (hr : Rides J) {Y : Nat → Prop} {w : World} (h : J Y w) : J (fun _ => False) w := hr.less _ _ _ (fun _ h => h.elim) h
theorem ld (a : List (BitVec 64)) (top : BitVec 64) (m : List (BitVec 64)) (ha : a.length = 6) (hm : m.length = 6) : Pure Tryz.prog Gt 148 [.agg ((a).map U64).toArray, U64 top, .agg ((m).map U64).toArray] (.agg ((RED a top m).map U64).toArray) := by
 refine a7 Tryz.func148 fun w hw hGF => ?_
 by_cases h1 : top = 0
 ·by_cases h2 : (SS a m 6).2 = 1
  ·skip
   refine xp ?_
   refine lb fun b3 => ?_
   refine lb fun b5 => ?_
   refine la zv25 fun b6 => ?_
   refine aa ?_
   refine xp ?_
   refine ay 3 rfl rfl Tryz.isAgg25 Tryz.sizeOf25 (by rw [List.length_map, ha]) rfl rfl ?_
   refine ay 5 rfl rfl Tryz.isAgg25 Tryz.sizeOf25 (by rw [List.length_map, hm]) rfl rfl ?_
   refine lc ent95 (ez a m ha hm) ?_
   refine rN3 ?_
   refine la zv25 fun b7 => ?_
   refine ao 7 hGF rfl rfl rfl Tryz.sizeOf25 (by rw [List.length_map, aH _ _ _]) (by rw [List.length_map, List.length_replicate]) (ak _) rfl ?_
   refine rN3 ?_
   refine aj ?_
   refine pN3 ?_
   refine ah (v := .bool true) rfl rfl (fun _ => rfl) (fun w => (bw _ _ _).trans (congrArg (fun b => Result.ok (Value.bool b) w) (beq_iff_eq.2 h1))) rfl rfl ?_
   refine rN3 ?_
   refine ah (v := .bool true) rfl rfl (fun _ => rfl) (fun w => (bw _ _ _).trans (congrArg (fun b => Result.ok (Value.bool b) w) (beq_iff_eq.2 h2))) rfl rfl ?_
   refine rN3 ?_
   refine bF rfl ?_
   refine xp ?_
   refine ay 3 rfl rfl Tryz.isAgg25 Tryz.sizeOf25 (by rw [List.length_map, ha]) rfl rfl ?_
   refine ao 6 hGF rfl rfl rfl Tryz.sizeOf25 (by rw [List.length_map, ha]) (by rw [List.length_map, List.length_replicate]) (ak _) rfl ?_
   refine aa ?_
   refine rt ?_
   exact aw 6 rfl rfl rfl Tryz.isAgg25 Tryz.sizeOf25 (by rw [List.length_map, ha]) (fun w hw => ⟨by rw [RED, if_pos (⟨h1, h2⟩)], ac hw⟩)
  ·skip
   refine xp ?_
   refine lb fun b3 => ?_
   refine lb fun b5 => ?_
   refine la zv25 fun b6 => ?_
   refine aa ?_
   refine xp ?_
   refine ay 3 rfl rfl Tryz.isAgg25 Tryz.sizeOf25 (by rw [List.length_map, ha]) rfl rfl ?_
   refine ay 5 rfl rfl Tryz.isAgg25 Tryz.sizeOf25 (by rw [List.length_map, hm]) rfl rfl ?_
   refine lc ent95 (ez a m ha hm) ?_
   refine rN3 ?_
   refine la zv25 fun b7 => ?_
   refine ao 7 hGF rfl rfl rfl Tryz.sizeOf25 (by rw [List.length_map, aH _ _ _]) (by rw [List.length_map, List.length_replicate]) (ak _) rfl ?_
   refine rN3 ?_
   refine aj ?_
   refine pN3 ?_
   refine ah (v := .bool true) rfl rfl (fun _ => rfl) (fun w => (bw _ _ _).trans (congrArg (fun b => Result.ok (Value.bool b) w) (beq_iff_eq.2 h1))) rfl rfl ?_
   refine rN3 ?_
   refine ah (v := .bool false) rfl rfl (fun _ => rfl) (fun w => (bw _ _ _).trans (congrArg (fun b => Result.ok (Value.bool b) w) (beq_eq_false_iff_ne.2 h2))) rfl rfl ?_
   refine rN3 ?_
   refine bg rfl ?_
   refine aD ?_
   refine xp ?_
   refine ay 7 rfl rfl Tryz.isAgg25 Tryz.sizeOf25 (by rw [List.length_map, aH _ _ _]) rfl rfl ?_
   refine ao 6 hGF rfl rfl rfl Tryz.sizeOf25 (by rw [List.length_map, aH _ _ _]) (by rw [List.length_map, List.length_replicate]) (ak _) rfl ?_
   refine aa ?_
   refine rt ?_
   exact aw 6 rfl rfl rfl Tryz.isAgg25 Tryz.sizeOf25 (by rw [List.length_map, aH]) (fun w hw => ⟨by rw [RED, if_neg (fun h => h2 h.2)], ac hw⟩)
 ·skip
  refine xp ?_
  refine lb fun b3 => ?_
  refine lb fun b5 => ?_
  refine la zv25 fun b6 => ?_
  refine aa ?_
  refine xp ?_
  refine ay 3 rfl rfl Tryz.isAgg25 Tryz.sizeOf25 (by rw [List.length_map, ha]) rfl rfl ?_
  refine ay 5 rfl rfl Tryz.isAgg25 Tryz.sizeOf25 (by rw [List.length_map, hm]) rfl rfl ?_
  refine lc ent95 (ez a m ha hm) ?_
  refine rN3 ?_
  refine la zv25 fun b7 => ?_
  refine ao 7 hGF rfl rfl rfl Tryz.sizeOf25 (by rw [List.length_map, aH _ _ _]) (by rw [List.length_map, List.length_replicate]) (ak _) rfl ?_
  refine rN3 ?_
  refine aj ?_
  refine pN3 ?_
  refine ah (v := .bool false) rfl rfl (fun _ => rfl) (fun w => (bw _ _ _).trans (congrArg (fun b => Result.ok (Value.bool b) w) (beq_eq_false_iff_ne.2 h1))) rfl rfl ?_
  refine rN3 ?_
  refine aU rfl rfl rfl ?_
  refine aU rfl rfl rfl ?_
  refine rN3 ?_
  refine bg rfl ?_
  refine aD ?_
  refine xp ?_
  refine ay 7 rfl rfl Tryz.isAgg25 Tryz.sizeOf25 (by rw [List.length_map, aH _ _ _]) rfl rfl ?_
  refine ao 6 hGF rfl rfl rfl Tryz.sizeOf25 (by rw [List.length_map, aH _ _ _]) (by rw [List.length_map, List.length_replicate]) (ak _) rfl ?_
  refine aa ?_
  refine rt ?_
  exact aw 6 rfl rfl rfl Tryz.isAgg25 Tryz.sizeOf25 (by rw [List.length_map, aH]) (fun w hw => ⟨by rw [RED, if_neg (fun h => h1 h.1)], ac hw⟩)
def FC (bb b : Nat) (a : List (BitVec 64)) (n : Nat) : Cls := fun W => W.cell? ⟨bb, 0, none⟩ = some (.slice (some ⟨b, 0, none⟩) n n) ∧ W.rangeAt b 0 (a.map U64)
def DG (a : List (BitVec 64)) (n : Nat) : List (List Value) := (List.range (64 * n)).map fun j => [I ((64 * n - 1 - j : Nat) : Int), U64 (dig a (64 * n - 1 - j))]
theorem mP (a : List (BitVec 64)) (n : Nat) : (DG a n).length = 64 * n := by simp [DG]
theorem Cy (a : List (BitVec 64)) (n q s : Nat) (hq : q < n) (hs : s < 64) : (DG a n)[64 * (n - (q + 1)) + (64 - (s + 1))]? = some [I ((64 * q + s : Nat) : Int), U64 (dig a (64 * q + s))] := by
 have h : 64 * (n - (q + 1)) + (64 - (s + 1)) < 64 * n := by omega
 rw [DG, List.getElem?_map, List.getElem?_range h]
 simp only [Option.map_some]
 rw [show 64 * n - 1 - (64 * (n - (q + 1)) + (64 - (s + 1))) = 64 * q + s by omega]
theorem z4 (a : List (BitVec 64)) (n k : Nat) (x : List Value) (h : (DG a n)[k]? = some x) : k < 64 * n ∧ x = [I ((64 * n - 1 - k : Nat) : Int), U64 (dig a (64 * n - 1 - k))] := by
 have hk : k < 64 * n := by
  rcases Nat.lt_or_ge k (64 * n) with h' | h'
  ·exact h'
  ·rw [List.getElem?_eq_none (by rw [mP]; exact h')] at h; cases h
 rw [DG, List.getElem?_map, List.getElem?_range hk] at h
 exact ⟨hk, (Option.some.inj h).symm⟩
theorem iw (sv : Value) (hs : sv.cells = #[sv]) (w : World) (hw : Gt w) : Calls Tryz.prog 185 [sv].toArray w (fun e w' => ∃ b1, e = .returned (.func (.func 199) #[] #[.pointer (some ⟨b1, 0, none⟩)]) ∧ Grow w w' ∧ w.heap.size ≤ b1 ∧ OwnB w' b1 [sv] 169) := by
 have hGF : BOk Gt (pl w) := gt_low.plain hw
 refine aN (G := Gt) Tryz.func185 rfl rfl (Hp (pl w) []) (aZ (pl w) trivial ai) (ap hGF) ?_
 refine xp ?_
 refine kI 1 hGF rfl rfl rfl ?_
 intro b1
 refine rN3 ?_
 refine xp ?_
 refine ib rfl rfl rfl rfl ?_
 refine rN3 ?_
 refine rt ?_
 exact aV rfl rfl (fun w hw => ⟨b1, rfl, ac hw, (hw.own 1 b1 _ _ rfl).2.elim id False.elim, (by have := (hw.own 1 b1 _ _ rfl).1; rw [hs] at this; exact this)⟩)
theorem jP (bb b : Nat) (a : List (BitVec 64)) (n : Nat) (hn : n ≤ 100) (ha : a.length = n) : fO Tryz.prog Gt 199 [.pointer (some ⟨bb, 0, none⟩)] (DG a n) (FC bb b a n) := by
 intro l J Jx hJ hJx hRd hGx hY w hj
 have okJ : ∀ k, BOk Gt (Bi w (fun Y => J Y k)) := fun k => ⟨fun _ _ _ h => (hRd _ _ _ h.rid).1, hJ k⟩
 have okX : ∀ k, BOk Gt (Bi w (fun Y => Jx Y k)) := fun k => ⟨fun _ _ _ h => hGx _ _ _ h.rid, hJx k⟩
 have c1 : ∀ k L w', Hp (Bi w (fun Y => J Y k)) L w' → FC bb b a n w' := fun k L w' h => (hRd _ _ _ h.rid).2
 refine aN (G := Gt) Tryz.func199 rfl rfl (Hp (Bi w (fun Y => J Y 0)) []) (aZ (Bi w _) hj (hJ 0)) (ap (okJ 0)) ?_
 refine fB ?_
 refine aj ?_
 refine fA ?_
 refine xp ?_
 refine bJ rfl Tryz.isAgg169 (fun w h => (c1 _ _ w h).1) rfl rfl ?_
 refine aX rfl (fun _ => au Tryz.underlying169 _ _ _ _) rfl rfl ?_
 refine ah rfl rfl (fun _ => rfl) (fun _ => bL _ _ _ (by unfold inI; omega)) rfl rfl ?_
 refine rN3 ?_
 refine am ?_
 refine iC (ι := { i : Nat // i ≤ n }) (fun x => [(0, .func (.yield l) #[] #[]), (1, .pointer (some ⟨bb, 0, none⟩)), (3, I ((x.1 : Int) - 1))]) (fun x => Bi w (fun Y => J Y (64 * (n - x.1)))) (fun x => []) (fun x => x.1) ⟨n, Nat.le_refl _⟩ (fun _ => okJ _) (by rw [Nat.sub_self]) ⟨rfl, rfl, rfl, trivial⟩ trivial ?_
 rintro ⟨i, hi⟩
 dsimp only
 refine aj ?_
 refine pN3 ?_
 refine ah rfl rfl (fun _ => rfl) (fun _ => gu _ _ _) rfl rfl ?_
 refine aa ?_
 refine bZ rfl (fun hc => ?_) (fun hc => ?_)
 ·simp only [decide_eq_true_eq] at hc
  obtain ⟨q, rfl⟩ : ∃ q, i = q + 1 := ⟨i - 1, by omega⟩
  clear hc
  rw [show ((q + 1 : Nat) : Int) - 1 = (q : Int) by omega]
  refine aD ?_
  refine aj ?_
  refine am ?_
  refine pN3 ?_
  refine am ?_
  refine iC (ι := { r : Nat // r ≤ 64 }) (fun x => [(0, .func (.yield l) #[] #[]), (1, .pointer (some ⟨bb, 0, none⟩)), (3, I (q : Int)), (4, I ((x.1 : Int) - 1))]) (fun x => Bi w (fun Y => J Y (64 * (n - (q + 1)) + (64 - x.1)))) (fun x => []) (fun x => x.1) ⟨64, Nat.le_refl _⟩ (fun _ => okJ _) rfl ⟨rfl, rfl, rfl, rfl, trivial⟩ trivial ?_
  rintro ⟨r, hr⟩
  dsimp only
  refine aj ?_
  refine pN3 ?_
  refine ah rfl rfl (fun _ => rfl) (fun _ => gu _ _ _) rfl rfl ?_
  refine aa ?_
  refine bZ rfl (fun hc => ?_) (fun hc => ?_)
  ·simp only [decide_eq_true_eq] at hc
   obtain ⟨s, rfl⟩ : ∃ s, r = s + 1 := ⟨r - 1, by omega⟩
   clear hc
   rw [show ((s + 1 : Nat) : Int) - 1 = (s : Int) by omega]
   refine aD ?_
   refine aj ?_
   refine am ?_
   refine pN3 ?_
   refine ah (v := I ((64 * q : Nat) : Int)) rfl rfl (fun _ => rfl) (fun _ => (iB _ _ _ (by unfold inI; omega)).trans (by rw [show (64 : Int) * (q : Int) = ((64 * q : Nat) : Int) by omega])) rfl rfl ?_
   refine rN3 ?_
   refine ah (v := I ((64 * q + s : Nat) : Int)) rfl rfl (fun _ => rfl) (fun _ => (aO _ _ _ (by unfold inI; omega)).trans (by rw [show ((64 * q : Nat) : Int) + (s : Int) = ((64 * q + s : Nat) : Int) by omega])) rfl rfl ?_
   refine bJ rfl Tryz.isAgg169 (fun w h => (c1 _ _ w h).1) rfl rfl ?_
   refine rN3 ?_
   refine BP q rfl rfl Tryz.underlying169 Tryz.sizeOf24 (by omega) (by omega) rfl rfl ?_
   refine bJ rfl Tryz.isAgg24 (fun w h => (c1 _ _ w h).2 q _ (gm U64 a 0 q (by omega))) rfl rfl ?_
   refine rN3 ?_
   refine ah rfl rfl (fun _ => rfl) (fun _ => eZ _ _ _ (by omega)) rfl rfl ?_
   refine ah (v := U64 (dig a (64 * q + s))) rfl rfl (fun _ => rfl) (fun _ => (dz _ _ _).trans (by rw [← DA a q s (by omega)]; rfl)) rfl rfl ?_
   refine ej (hY.b (k := 64 * (n - (q + 1)) + (64 - (s + 1))) (Cy a n q s (by omega) (by omega)) w) (okJ _) (okX _) rfl rfl rfl rfl rfl ?_ ?_
   ·skip
    refine bH rfl (fun _ => bt _) rfl rfl ?_
    refine aa ?_
    refine bg rfl ?_
    refine aD ?_
    refine av (E := EE []) ?_
    refine rN3 ?_
    refine ah rfl rfl (fun _ => rfl) (fun _ => bL _ _ _ (by unfold inI; omega)) rfl rfl ?_
    refine rN3 ?_
    rw [show 64 * (n - (q + 1)) + (64 - (s + 1)) + 1 = 64 * (n - (q + 1)) + (64 - s) by omega]
    repeat (refine a6 ?_)
    refine bC ?_
    exact ⟨rfl, ⟨s, by omega⟩, _, by show s < s + 1; omega, rfl, ⟨rfl, rfl, rfl, rfl, trivial⟩, trivial⟩
   ·skip
    refine bH rfl (fun _ => bt _) rfl rfl ?_
    refine aa ?_
    refine bF rfl ?_
    refine bf ?_
    repeat (first | refine ep ?_ | refine bX ?_ | refine eB rfl ?_)
    refine zB ?_
    exact dY rfl (fun w hw => ⟨⟨_, rfl⟩, .inr ⟨_, cv (hJx _) hw.rid⟩⟩)
  ·simp only [decide_eq_false_iff_not] at hc
   obtain rfl : r = 0 := by omega
   clear hc
   rw [show 64 * (n - (q + 1)) + (64 - 0) = 64 * (n - q) by omega]
   refine bf ?_
   refine av (E := EE []) ?_
   refine rN3 ?_
   refine ah rfl rfl (fun _ => rfl) (fun _ => bL _ _ _ (by unfold inI; omega)) rfl rfl ?_
   refine rN3 ?_
   repeat (refine a6 ?_)
   refine bC ?_
   exact ⟨rfl, ⟨q, by omega⟩, _, by show q < q + 1; omega, rfl, ⟨rfl, rfl, rfl, trivial⟩, trivial⟩
 ·simp only [decide_eq_false_iff_not] at hc
  obtain rfl : i = 0 := by omega
  refine bf ?_
  repeat (first | refine ep ?_ | refine bX ?_ | refine eB rfl ?_)
  refine zB ?_
  refine dY rfl (fun w hw => ⟨⟨_, rfl⟩, .inl ?_⟩)
  have := cv (hJ _) hw.rid
  rw [mP]
  exact this
end
section
open Go.RowKit
theorem rN4 {Q P : Prop} (k : Q) (h : Q → P := by intro k; (refine LY.run ?_); (repeat (first | refine bK rfl rfl rfl ?_ | refine bk rfl rfl rfl ?_ | refine go rfl rfl rfl rfl ?_)); (first | refine cn ?_ | refine LY.mk ?_); exact k) : P := h k
theorem wN (t m : List (BitVec 64)) (ht : t.length = 12) (hm : m.length = 6) : Pure Tryz.prog Gt 144 [.agg ((t).map U64).toArray, .agg ((m).map U64).toArray] (.agg ((MOD t m).map U64).toArray) := by
 intro w hw
 have hGF : BOk Gt (pl w) := gt_low.plain hw
 refine bE (G := Gt) Tryz.func144 rfl rfl (Hp (pl w) []) (aZ (pl w) trivial ai) (ap hGF) ?_
 refine ab (E := EE [185]) ?_
 refine lb fun b2 => ?_
 refine lb fun b3 => ?_
 refine la zv25 fun b4 => ?_
 refine aa ?_
 refine ab (E := EE [185]) ?_
 refine la zv25 fun b5 => ?_
 refine aa ?_
 refine aj ?_
 refine ab (E := EE [185]) ?_
 refine ay 3 rfl rfl Tryz.isAgg25 Tryz.sizeOf25 (by rw [List.length_map, hm]) rfl rfl ?_
 refine ay 5 rfl rfl Tryz.isAgg25 Tryz.sizeOf25 (by rw [List.length_map, List.length_replicate]) rfl rfl ?_
 refine ah rfl rfl (fun w => eqg _ _ _ _ _ w) (fun w => eq23 m (List.replicate 6 0) hm rfl w) rfl rfl ?_
 refine aa ?_
 refine bZ rfl (fun hc => ?_) (fun hc => ?_)
 ·simp only [decide_eq_true_eq] at hc
  refine ab (E := EE [185]) ?_
  refine ay 5 rfl rfl Tryz.isAgg25 Tryz.sizeOf25 (by rw [List.length_map, List.length_replicate]) rfl rfl ?_
  refine ao 4 hGF rfl rfl rfl Tryz.sizeOf25 (by simp) (by rw [List.length_map, List.length_replicate]) (ak _) rfl ?_
  refine aa ?_
  refine rt ?_
  exact yu (.inl rfl) (aw 4 rfl rfl rfl Tryz.isAgg25 Tryz.sizeOf25 (by rw [List.length_map, List.length_replicate]) (fun w hw => ⟨by rw [MOD, if_pos hc]; rfl, ac hw⟩))
 ·simp only [decide_eq_false_iff_not] at hc
  refine aD ?_
  refine aj ?_
  refine ab (E := EE [185]) ?_
  refine fq (l := 0) (h' := 12) rfl Tryz.underlying168 Tryz.sizeOf24 rfl rfl (by omega) (by omega) rfl rfl ?_
  refine cz rfl rfl ent185 rfl rfl (fun w' hw' => (iw _ rfl w' (hGF.g _ _ _ hw')).mono fun e w'' h => ?_)
  obtain ⟨c1, rfl, hg, h1, ho⟩ := h
  refine ⟨_, _, rfl, ap hGF, hw'.news ai hg [(33, c1, [.slice (some ⟨b2, 0, none⟩) 12 12], 169)] ?_ di, ?_⟩
  ·intro n' b' c' t' hl
   rcases bh hl with ⟨_, e⟩ | ⟨_, hl⟩
   ·cases e; exact ⟨h1, ho⟩
   ·cases hl
  clear hw' hg h1 ho
  refine aa ?_
  refine am ?_
  refine db (fun _ => pl w) (fun _ _ => pl w) (fun _ => hGF) (fun _ _ => hGF) (fun _ => rfl) (fun _ _ => rfl) rfl rfl ent199 (jP c1 b2 t 12 (by decide) ht) (fun x hx => by obtain ⟨k, hk, rfl⟩ := List.mem_map.1 hx; rfl) rfl (fun k => [(2, b2, t.map U64, 168), (3, b3, m.map U64, 25), (4, b4, (List.replicate 6 0#64).map U64, 25), (5, b5, (MDs t m k).map U64, 25), (33, c1, [.slice (some ⟨b2, 0, none⟩) 12 12], 169)]) (fun _ _ _ => False) ⟨rfl, rfl, rfl, rfl, rfl, trivial⟩ (fun k _ w' h => ⟨cF (n := 33) rfl rfl w' h, cx (n := 2) rfl w' h⟩) ?_ ?_ (fun _ _ _ _ _ h => h.elim)
  ·intro k x hx R hR
   obtain ⟨hk, rfl⟩ := z4 t 12 k x hx
   rw [show 64 * 12 - 1 - k = 767 - k from rfl]
   refine av (E := EE [185]) ?_
   refine rN4 ?_
   refine ⟨rfl, _, rfl, ?_⟩
   refine am ?_
   refine ab (E := EE [185]) ?_
   refine ay 5 rfl rfl Tryz.isAgg25 Tryz.sizeOf25 (by rw [List.length_map, dR]) rfl rfl ?_
   refine ay 5 rfl rfl Tryz.isAgg25 Tryz.sizeOf25 (by rw [List.length_map, dR]) rfl rfl ?_
   refine az rfl rfl ent94 (fV _ _ (dR t m _) (dR t m _)) rfl rfl ?_
   refine rN4 ?_
   refine bM 8 (hR (pl w) rfl hGF).2.1 zv25 rfl rfl ?_
   intro b8
   refine ao 8 (hR (pl w) rfl hGF).2.1 rfl rfl rfl Tryz.sizeOf25 (by rw [List.length_map, aI]) (by rw [List.length_map, List.length_replicate]) (ak _) rfl ?_
   refine rN4 ?_
   refine ab (E := EE [185]) ?_
   refine bm (0) rfl rfl Tryz.underlying25 Tryz.sizeOf24 (by omega) (by omega) rfl rfl ?_
   refine bj 8 U64 0 rfl rfl Tryz.isAgg24 (by rw [aI]; omega) rfl rfl ?_
   refine rN4 ?_
   refine ah rfl rfl (fun _ => rfl) (fun _ => k9 _ _ _) rfl rfl ?_
   refine bm (0) rfl rfl Tryz.underlying25 Tryz.sizeOf24 (by omega) (by omega) rfl rfl ?_
   refine cw 8 U64 (hR (pl w) rfl hGF).2.1 rfl rfl rfl Tryz.sizeOf24 rfl (by rw [aI]; omega) rfl ?_
   refine aa ?_
   refine av (E := EE [185]) ?_
   refine ay 8 rfl rfl Tryz.isAgg25 Tryz.sizeOf25 (by rw [List.length_map, List.length_set, aI]) rfl rfl ?_
   refine rN4 ?_
   refine ay 3 rfl rfl Tryz.isAgg25 Tryz.sizeOf25 (by rw [List.length_map, hm]) rfl rfl ?_
   refine az rfl rfl ent148 (ld _ _ _ (pY _ _) hm) rfl rfl ?_
   refine ao 5 (hR (pl w) rfl hGF).2.1 rfl rfl rfl Tryz.sizeOf25 (by rw [List.length_map]; exact fE _ _ _ (pY _ _)) (by rw [List.length_map, dR]) (ak _) rfl ?_
   refine aa ?_
   exact ⟨_, rfl, ⟨rfl, rfl, rfl, rfl, rfl, trivial⟩⟩
  ·intro D hD
   rw [mP]
   refine ab (E := EE [185]) ?_
   refine ay 5 rfl rfl Tryz.isAgg25 Tryz.sizeOf25 (by rw [List.length_map, dR]) rfl rfl ?_
   refine ao 4 hD rfl rfl rfl Tryz.sizeOf25 (by rw [List.length_map, dR _ _ _]) (by rw [List.length_map, List.length_replicate]) (ak _) rfl ?_
   refine aa ?_
   refine rt ?_
   exact cr (.inl rfl) ai (aw 4 rfl rfl rfl Tryz.isAgg25 Tryz.sizeOf25 (by rw [List.length_map, dR]) (fun w hw => ⟨by rw [MOD, if_neg hc], ac hw⟩))
end
section
open Go.RowKit
theorem rN6 {Q P : Prop} (k : Q) (h : Q → P := by intro k; (refine LY.run ?_); (repeat (first | refine bK rfl rfl rfl ?_ | refine bk rfl rfl rfl ?_ | refine go rfl rfl rfl rfl ?_ | refine bP (f := 146) rfl rfl ent146 (cQ _ _ _ _) rfl rfl ?_)); (first | refine cn ?_ | refine LY.mk ?_); exact k) : P := h k
theorem pN6 {Q P : Prop} (k : Q) (h : Q → P := by intro k; (refine xp ?_); (refine rN6 ?_); exact k) : P := h k
theorem kN (a : BitVec 64) {P : Program} {w : World} : (Op.unary .neg (U64 a)).run P w = .ok (U64 (-a)) w := by
 show (Op.intArith .sub .u64 0 (a.toNat : Int)).run P w = _
 simp only [Op.intArith, Sem.run_pure]
 have h := a.isLt
 congr 2
 simp only [BitVec.toNat_neg]
 congr 1
 simp only [IntKind.wrap, IntKind.signed, IntKind.bits, Bool.false_and]
 simp
 omega
theorem g8 (n : BitVec 64) : Pure Tryz.prog Gt 145 [U64 n] (U64 (IV n 5)) := by
 refine a7 Tryz.func145 fun w hw hGF => ?_
 refine pN6 ?_
 refine pN6 ?_
 refine aj ?_
 refine pN6 ?_
 refine am ?_
 refine cp (ι := { i : Nat // i ≤ 5 }) (fun x => [(0, U64 n), (2, U64 0), (3, U64 (IV n x.1)), (5, I (x.1 : Int))]) (fun x => []) (fun x => 5 - x.1) ⟨0, by omega⟩ hGF ⟨rfl, rfl, rfl, rfl, trivial⟩ trivial ?_
 rintro ⟨i, hi⟩
 dsimp only
 refine xp ?_
 refine ah rfl rfl (fun _ => rfl) (fun _ => aA _ _ _) rfl rfl ?_
 refine aa ?_
 refine aj ?_
 refine bZ rfl (fun hc => ?_) (fun hc => ?_)
 ·simp only [decide_eq_true_eq] at hc
  refine aD ?_
  refine aj ?_
  refine am ?_
  refine av (E := EE []) ?_
  refine rN6 ?_
  refine ah rfl rfl (fun _ => rfl) (fun _ => ci _ _ _) rfl rfl ?_
  refine ah rfl rfl (fun _ => rfl) (fun _ => oE _ _ _) rfl rfl ?_
  refine ah rfl rfl (fun _ => rfl) (fun _ => ci _ _ _) rfl rfl ?_
  refine rN6 ?_
  refine av (E := EE []) ?_
  refine ah rfl rfl (fun _ => rfl) (fun _ => aO _ _ _ (by unfold inI; omega)) rfl rfl ?_
  refine rN6 ?_
  repeat (refine a6 ?_)
  refine bC ?_
  exact ⟨rfl, ⟨i + 1, by omega⟩, _, by show 5 - (i + 1) < 5 - i; omega, rfl, ⟨rfl, rfl, rfl, rfl, trivial⟩, trivial⟩
 ·obtain rfl : i = 5 := by simp at hc; omega
  refine bf ?_
  refine pN6 ?_
  refine rt ?_
  exact aV rfl rfl (fun w hw => ⟨rfl, ac hw⟩)
theorem Di : (Tryz.prog.info? 24).map (·.size) = some 1 := by kernel_rfl
theorem sW (a : List (BitVec 64)) (h : a.length = 6) : lay 0 (a.map U64) ((List.replicate 12 0#64).map U64) = (a ++ List.replicate 6 0).map U64 := by
 rw [kf _ _ _ (by simp [h])]
 simp [h]
theorem fk (a b m : List (BitVec 64)) (ha : a.length = 6) (hb : b.length = 6) (hm : m.length = 6) : Pure Tryz.prog Gt 77 [.agg ((a).map U64).toArray, .agg ((b).map U64).toArray, .agg ((m).map U64).toArray] (.agg ((dO a b m).map U64).toArray) := by
 intro w hw
 have hGF : BOk Gt (pl w) := gt_low.plain hw
 refine aN (G := Gt) Tryz.func77 rfl rfl (Hp (pl w) []) (aZ (pl w) trivial ai) (ap hGF) ?_
 by_cases h0 : m.getD 0 0 % 2 = 0
 ·skip
  refine ab (E := EE []) ?_
  refine dj 3 hGF rfl rfl rfl ?_
  intro b3
  refine dj 4 hGF rfl rfl rfl ?_
  intro b4
  refine dj 5 hGF rfl rfl rfl ?_
  intro b5
  refine bM 6 hGF zv25 rfl rfl ?_
  intro b6
  refine aa ?_
  refine aj ?_
  refine ab (E := EE []) ?_
  refine bm (0) rfl rfl Tryz.underlying25 Tryz.sizeOf24 (by omega) (by omega) rfl rfl ?_
  refine bj 5 U64 0 rfl rfl Tryz.isAgg24 (by rw [hm]; omega) rfl rfl ?_
  refine ah rfl rfl (fun _ => rfl) (fun _ => f5 _ _ _ (by decide)) rfl rfl ?_
  refine ah (v := .bool true) rfl rfl (fun _ => rfl) (fun w => (bw _ _ _).trans (congrArg (fun b => Result.ok (Value.bool b) w) (beq_iff_eq.2 h0))) rfl rfl ?_
  refine aa ?_
  refine bF rfl ?_
  refine ab (E := EE []) ?_
  refine iz zv25 Tryz.underlying25 Tryz.sizeOf24 rfl rfl ?_
  refine ao 6 hGF rfl rfl rfl Tryz.sizeOf25 (by rw [List.length_map, List.length_replicate]) (by rw [List.length_map, List.length_replicate]) (ak _) rfl ?_
  refine aa ?_
  refine cG ?_
  repeat (first | refine aQ ?_ | refine aP ?_)
  exact aw 6 rfl rfl rfl Tryz.isAgg25 Tryz.sizeOf25 (by rw [List.length_map, List.length_replicate]) (fun w hw => ⟨by rw [dO, if_pos h0]; rfl, ac hw⟩)
 cases h1 : LT a m 6 with
 | true =>
  refine ab (E := EE []) ?_
  refine dj 3 hGF rfl rfl rfl ?_
  intro b3
  refine dj 4 hGF rfl rfl rfl ?_
  intro b4
  refine dj 5 hGF rfl rfl rfl ?_
  intro b5
  refine bM 6 hGF zv25 rfl rfl ?_
  intro b6
  refine aa ?_
  refine aj ?_
  refine ab (E := EE []) ?_
  refine bm (0) rfl rfl Tryz.underlying25 Tryz.sizeOf24 (by omega) (by omega) rfl rfl ?_
  refine bj 5 U64 0 rfl rfl Tryz.isAgg24 (by rw [hm]; omega) rfl rfl ?_
  refine ah rfl rfl (fun _ => rfl) (fun _ => f5 _ _ _ (by decide)) rfl rfl ?_
  refine ah (v := .bool false) rfl rfl (fun _ => rfl) (fun w => (bw _ _ _).trans (congrArg (fun b => Result.ok (Value.bool b) w) (beq_eq_false_iff_ne.2 h0))) rfl rfl ?_
  refine aa ?_
  refine bg rfl ?_
  refine aD ?_
  refine aj ?_
  refine ab (E := EE []) ?_
  refine ay 3 rfl rfl Tryz.isAgg25 Tryz.sizeOf25 (by rw [List.length_map, ha]) rfl rfl ?_
  refine ay 5 rfl rfl Tryz.isAgg25 Tryz.sizeOf25 (by rw [List.length_map, hm]) rfl rfl ?_
  refine az rfl rfl ent103 (iO a m ha hm) rfl rfl ?_
  refine bH (v := .bool false) rfl (fun _ => (bt _).trans (by rw [h1]; rfl)) rfl rfl ?_
  refine aa ?_
  refine bg rfl ?_
  refine aD ?_
  refine ab (E := EE []) ?_
  refine bm (0) rfl rfl Tryz.underlying25 Tryz.sizeOf24 (by omega) (by omega) rfl rfl ?_
  refine bj 5 U64 0 rfl rfl Tryz.isAgg24 (by rw [hm]; omega) rfl rfl ?_
  refine az rfl rfl ent145 (g8 _) rfl rfl ?_
  refine bH rfl (fun _ => kN _) rfl rfl ?_
  refine aK rfl rfl rfl ?_
  generalize hcl : -(IV (m.getD 0 0) 5) = cl
  refine aa ?_
  refine ab (E := EE []) ?_
  refine bM 9 hGF zv25 rfl rfl ?_
  intro b9
  refine aa ?_
  refine ab (E := EE []) ?_
  refine aK rfl rfl rfl ?_
  refine aa ?_
  refine aj ?_
  refine ab (E := EE []) ?_
  refine ay 3 rfl rfl Tryz.isAgg25 Tryz.sizeOf25 (by rw [List.length_map, ha]) rfl rfl ?_
  refine aC rfl rfl rfl ?_
  refine aa ?_
  refine am ?_
  refine cp (ι := { i : Nat // i ≤ 6 }) (fun x => [(4, .pointer (some ⟨b4, 0, none⟩)), (5, .pointer (some ⟨b5, 0, none⟩)), (6, .pointer (some ⟨b6, 0, none⟩)), (8, U64 cl), (9, .pointer (some ⟨b9, 0, none⟩)), (10, U64 (MO a b m cl x.1).2), (38, .agg ((a).map U64).toArray), (39, I (x.1 : Int))]) (fun x => [(4, b4, b.map U64, 25), (5, b5, m.map U64, 25), (6, b6, (List.replicate 6 0#64).map U64, 25), (9, b9, (MO a b m cl x.1).1.map U64, 25)]) (fun x => 6 - x.1) ⟨0, by omega⟩ hGF ⟨rfl, rfl, rfl, rfl, rfl, rfl, rfl, rfl, trivial⟩ ⟨rfl, rfl, rfl, rfl, trivial⟩ ?_
  rintro ⟨i, hi⟩
  dsimp only
  refine ab (E := EE []) ?_
  refine ah rfl rfl (fun _ => rfl) (fun _ => aA _ _ _) rfl rfl ?_
  refine aa ?_
  refine aj ?_
  refine bZ rfl (fun hc => ?_) (fun hc => ?_)
  ·simp only [decide_eq_true_eq] at hc
   refine aD ?_
   refine aj ?_
   refine am ?_
   refine ab (E := EE []) ?_
   refine jl U64 0 (i) rfl rfl Tryz.underlying25 Tryz.sizeOf24 Tryz.isAgg24 (by omega) (by omega) (ha) rfl rfl ?_
   refine aK rfl rfl rfl ?_
   refine aa ?_
   refine ab (E := EE []) ?_
   refine aK rfl rfl rfl ?_
   refine aK rfl rfl rfl ?_
   refine aa ?_
   refine aj ?_
   refine ab (E := EE []) ?_
   refine ay 4 rfl rfl Tryz.isAgg25 Tryz.sizeOf25 (by rw [List.length_map, hb]) rfl rfl ?_
   refine aC rfl rfl rfl ?_
   refine aa ?_
   refine am ?_
   refine cp (ι := { i : Nat // i ≤ 6 }) (fun x => [(4, .pointer (some ⟨b4, 0, none⟩)), (5, .pointer (some ⟨b5, 0, none⟩)), (6, .pointer (some ⟨b6, 0, none⟩)), (8, U64 cl), (9, .pointer (some ⟨b9, 0, none⟩)), (10, U64 (MO a b m cl i).2), (38, .agg ((a).map U64).toArray), (39, I (i : Int)), (12, U64 (a.getD i 0)), (13, U64 (MJ (a.getD i 0) b (MO a b m cl i).1 x.1).2), (14, U64 0), (42, .agg ((b).map U64).toArray), (43, I (x.1 : Int))]) (fun x => [(4, b4, b.map U64, 25), (5, b5, m.map U64, 25), (6, b6, (List.replicate 6 0#64).map U64, 25), (9, b9, (MJ (a.getD i 0) b (MO a b m cl i).1 x.1).1.map U64, 25)]) (fun x => 6 - x.1) ⟨0, by omega⟩ hGF ⟨rfl, rfl, rfl, rfl, rfl, rfl, rfl, rfl, rfl, rfl, rfl, rfl, rfl, trivial⟩ ⟨rfl, rfl, rfl, rfl, trivial⟩ ?_
   rintro ⟨j, hj⟩
   dsimp only
   refine ab (E := EE []) ?_
   refine ah rfl rfl (fun _ => rfl) (fun _ => aA _ _ _) rfl rfl ?_
   refine aa ?_
   refine aj ?_
   refine bZ rfl (fun hc => ?_) (fun hc => ?_)
   ·simp only [decide_eq_true_eq] at hc
    refine aD ?_
    refine aj ?_
    refine am ?_
    refine ab (E := EE []) ?_
    refine aC rfl rfl rfl ?_
    refine jl U64 0 (j) rfl rfl Tryz.underlying25 Tryz.sizeOf24 Tryz.isAgg24 (by omega) (by omega) (hb) rfl rfl ?_
    refine aK rfl rfl rfl ?_
    refine aK rfl rfl rfl ?_
    refine aa ?_
    refine av (E := EE []) ?_
    refine aC rfl rfl rfl ?_
    refine aC rfl rfl rfl ?_
    refine aC rfl rfl rfl ?_
    refine aC rfl rfl rfl ?_
    refine bm (j) rfl rfl Tryz.underlying25 Tryz.sizeOf24 (by omega) (by omega) rfl rfl ?_
    refine bj 9 U64 0 rfl rfl Tryz.isAgg24 (by rw [ga, cL]; omega) rfl rfl ?_
    refine aC rfl rfl rfl ?_
    refine az rfl rfl ent146 (cQ _ _ _ _) rfl rfl ?_
    refine aC rfl rfl rfl ?_
    refine ch rfl rfl rfl rfl ?_
    refine ch rfl rfl rfl rfl ?_
    refine bm (j) rfl rfl Tryz.underlying25 Tryz.sizeOf24 (by omega) (by omega) rfl rfl ?_
    refine cw 9 U64 hGF rfl rfl rfl Tryz.sizeOf24 rfl (by rw [ga, cL]; omega) rfl ?_
    refine aK rfl rfl rfl ?_
    refine aa ?_
    refine av (E := EE []) ?_
    refine ah rfl rfl (fun _ => rfl) (fun _ => aO _ _ _ (by unfold inI; omega)) rfl rfl ?_
    refine aC rfl rfl rfl ?_
    refine aa ?_
    repeat (refine a6 ?_)
    refine bC ?_
    exact ⟨rfl, ⟨j + 1, by omega⟩, _, by show 6 - (j + 1) < 6 - j; omega, rfl, ⟨rfl, rfl, rfl, rfl, rfl, rfl, rfl, rfl, rfl, rfl, rfl, rfl, rfl, trivial⟩, ⟨rfl, rfl, rfl, rfl, trivial⟩⟩
   ·obtain rfl : j = 6 := by simp at hc; omega
    generalize hS : MJ (a.getD i 0) b (MO a b m cl i).1 6 = S1
    have hSl : S1.1.length = 6 := by rw [← hS, ga, cL]
    refine bf ?_
    refine ab (E := EE []) ?_
    refine aC rfl rfl rfl ?_
    refine aC rfl rfl rfl ?_
    refine eQ rfl rfl (fun w => jY _ _ _ (by decide) w) rfl rfl ?_
    refine aC rfl rfl rfl ?_
    refine ch rfl rfl rfl rfl ?_
    refine ch rfl rfl rfl rfl ?_
    refine aK rfl rfl rfl ?_
    refine aK rfl rfl rfl ?_
    refine aa ?_
    refine ab (E := EE []) ?_
    refine bm (0) rfl rfl Tryz.underlying25 Tryz.sizeOf24 (by omega) (by omega) rfl rfl ?_
    refine bj 9 U64 0 rfl rfl Tryz.isAgg24 (by rw [hSl]; omega) rfl rfl ?_
    refine aC rfl rfl rfl ?_
    refine ah rfl rfl (fun _ => rfl) (fun _ => ci _ _ _) rfl rfl ?_
    refine aK rfl rfl rfl ?_
    refine aa ?_
    refine ab (E := EE []) ?_
    refine aC rfl rfl rfl ?_
    refine bm (0) rfl rfl Tryz.underlying25 Tryz.sizeOf24 (by omega) (by omega) rfl rfl ?_
    refine bj 5 U64 0 rfl rfl Tryz.isAgg24 (by rw [hm]; omega) rfl rfl ?_
    refine bm (0) rfl rfl Tryz.underlying25 Tryz.sizeOf24 (by omega) (by omega) rfl rfl ?_
    refine bj 9 U64 0 rfl rfl Tryz.isAgg24 (by rw [hSl]; omega) rfl rfl ?_
    refine az rfl rfl ent146 (cQ _ _ _ _) rfl rfl ?_
    refine aC rfl rfl rfl ?_
    refine ch rfl rfl rfl rfl ?_
    refine ch rfl rfl rfl rfl ?_
    refine aK rfl rfl rfl ?_
    refine aa ?_
    refine aj ?_
    refine ab (E := EE []) ?_
    refine aK rfl rfl rfl ?_
    refine aa ?_
    refine am ?_
    refine cp (ι := { i : Nat // i ≤ 5 }) (fun x => [(4, .pointer (some ⟨b4, 0, none⟩)), (5, .pointer (some ⟨b5, 0, none⟩)), (6, .pointer (some ⟨b6, 0, none⟩)), (8, U64 cl), (9, .pointer (some ⟨b9, 0, none⟩)), (10, U64 (ADC (MO a b m cl i).2 S1.2 0).1), (38, .agg ((a).map U64).toArray), (39, I (i : Int)), (14, U64 (ADC (MO a b m cl i).2 S1.2 0).2), (17, U64 (S1.1.getD 0 0 * cl)), (13, U64 (MR (S1.1.getD 0 0 * cl) m S1.1 x.1).2), (18, I ((x.1 + 1 : Nat) : Int))]) (fun x => [(4, b4, b.map U64, 25), (5, b5, m.map U64, 25), (6, b6, (List.replicate 6 0#64).map U64, 25), (9, b9, (MR (S1.1.getD 0 0 * cl) m S1.1 x.1).1.map U64, 25)]) (fun x => 5 - x.1) ⟨0, by omega⟩ hGF ⟨rfl, rfl, rfl, rfl, rfl, rfl, rfl, rfl, rfl, rfl, rfl, rfl, trivial⟩ ⟨rfl, rfl, rfl, rfl, trivial⟩ ?_
    rintro ⟨r, hr⟩
    dsimp only
    refine aj ?_
    refine ab (E := EE []) ?_
    refine aC rfl rfl rfl ?_
    refine ah rfl rfl (fun _ => rfl) (fun _ => aA _ _ _) rfl rfl ?_
    refine aa ?_
    refine bZ rfl (fun hc => ?_) (fun hc => ?_)
    ·simp only [decide_eq_true_eq] at hc
     refine aD ?_
     refine aj ?_
     refine am ?_
     refine c9 (E := EE []) bi (by kernel_rfl) (by kernel_rfl) (by kernel_rfl) ?_
     refine aC rfl rfl rfl ?_
     refine ah (v := I (r : Int)) rfl rfl (fun _ => rfl) (fun _ => (bL _ _ _ (by unfold inI; omega)).trans (by rw [show (((r + 1 : Nat) : Int) - 1) = (r : Int) by omega])) rfl rfl ?_
     refine aC rfl rfl rfl ?_
     refine aC rfl rfl rfl ?_
     refine bm ((r + 1)) rfl rfl Tryz.underlying25 Tryz.sizeOf24 (by omega) (by omega) rfl rfl ?_
     refine bj 5 U64 0 rfl rfl Tryz.isAgg24 (by rw [hm]; omega) rfl rfl ?_
     refine aC rfl rfl rfl ?_
     refine bm ((r + 1)) rfl rfl Tryz.underlying25 Tryz.sizeOf24 (by omega) (by omega) rfl rfl ?_
     refine bj 9 U64 0 rfl rfl Tryz.isAgg24 (by rw [eT, hSl]; omega) rfl rfl ?_
     refine aC rfl rfl rfl ?_
     refine az rfl rfl ent146 (cQ _ _ _ _) rfl rfl ?_
     refine aC rfl rfl rfl ?_
     refine ch rfl rfl rfl rfl ?_
     refine ch rfl rfl rfl rfl ?_
     refine bm (r) rfl rfl Tryz.underlying25 Tryz.sizeOf24 (by omega) (by omega) rfl rfl ?_
     refine cw 9 U64 hGF rfl rfl rfl Tryz.sizeOf24 rfl (by rw [eT, hSl]; omega) rfl ?_
     refine aK rfl rfl rfl ?_
     refine aa ?_
     refine av (E := EE []) ?_
     refine aC rfl rfl rfl ?_
     refine ah rfl rfl (fun _ => rfl) (fun _ => aO _ _ _ (by unfold inI; omega)) rfl rfl ?_
     refine aK rfl rfl rfl ?_
     refine aa ?_
     repeat (refine a6 ?_)
     refine bC ?_
     exact ⟨rfl, ⟨r + 1, by omega⟩, _, by show 5 - (r + 1) < 5 - r; omega, rfl, ⟨rfl, rfl, rfl, rfl, rfl, rfl, rfl, rfl, rfl, rfl, rfl, rfl, trivial⟩, ⟨rfl, rfl, rfl, rfl, trivial⟩⟩
    ·obtain rfl : r = 5 := by simp at hc; omega
     generalize hM : MR (S1.1.getD 0 0 * cl) m S1.1 5 = R1
     have hRl : R1.1.length = 6 := by rw [← hM, eT, hSl]
     refine bf ?_
     refine ab (E := EE []) ?_
     refine aC rfl rfl rfl ?_
     refine aC rfl rfl rfl ?_
     refine eQ rfl rfl (fun w => jY _ _ _ (by decide) w) rfl rfl ?_
     refine aC rfl rfl rfl ?_
     refine ch rfl rfl rfl rfl ?_
     refine ch rfl rfl rfl rfl ?_
     refine bm (5) rfl rfl Tryz.underlying25 Tryz.sizeOf24 (by omega) (by omega) rfl rfl ?_
     refine cw 9 U64 hGF rfl rfl rfl Tryz.sizeOf24 rfl (by rw [hRl]; omega) rfl ?_
     refine aK rfl rfl rfl ?_
     refine aa ?_
     refine av (E := EE []) ?_
     refine aC rfl rfl rfl ?_
     refine aC rfl rfl rfl ?_
     refine ah rfl rfl (fun _ => rfl) (fun _ => cE _ _ _) rfl rfl ?_
     refine aK rfl rfl rfl ?_
     refine aa ?_
     refine av (E := EE []) ?_
     refine ah rfl rfl (fun _ => rfl) (fun _ => aO _ _ _ (by unfold inI; omega)) rfl rfl ?_
     refine aC rfl rfl rfl ?_
     refine aa ?_
     repeat (refine a6 ?_)
     refine bC ?_
     exact ⟨rfl, ⟨i + 1, by omega⟩, _, by show 6 - (i + 1) < 6 - i; omega, rfl, ⟨rfl, rfl, rfl, rfl, rfl, by rw [jx a b m cl i hS hM]; rfl, rfl, rfl, trivial⟩, ⟨rfl, rfl, rfl, by rw [jx a b m cl i hS hM]; rfl, trivial⟩⟩
  ·obtain rfl : i = 6 := by simp at hc; omega
   refine bf ?_
   refine ab (E := EE []) ?_
   refine ay 9 rfl rfl Tryz.isAgg25 Tryz.sizeOf25 (by rw [List.length_map, cL]) rfl rfl ?_
   refine aC rfl rfl rfl ?_
   refine ay 5 rfl rfl Tryz.isAgg25 Tryz.sizeOf25 (by rw [List.length_map, hm]) rfl rfl ?_
   refine az rfl rfl ent148 (ld _ _ _ (cL _ _ _ _ _) hm) rfl rfl ?_
   refine ao 6 hGF rfl rfl rfl Tryz.sizeOf25 (by rw [List.length_map, fE _ _ _ (cL _ _ _ _ _)]) (by rw [List.length_map, List.length_replicate]) (ak _) rfl ?_
   refine aa ?_
   refine cG ?_
   repeat (first | refine aQ ?_ | refine aP ?_)
   exact aw 6 rfl rfl rfl Tryz.isAgg25 Tryz.sizeOf25 (by rw [List.length_map]; exact fE _ _ _ (cL _ _ _ _ _)) (fun w hw => ⟨by rw [dO, if_neg h0, if_pos h1, MN, hcl], ac hw⟩)
 | false =>
  refine ab (E := EE []) ?_
  refine dj 3 hGF rfl rfl rfl ?_
  intro b3
  refine dj 4 hGF rfl rfl rfl ?_
  intro b4
  refine dj 5 hGF rfl rfl rfl ?_
  intro b5
  refine bM 6 hGF zv25 rfl rfl ?_
  intro b6
  refine aa ?_
  refine aj ?_
  refine ab (E := EE []) ?_
  refine bm (0) rfl rfl Tryz.underlying25 Tryz.sizeOf24 (by omega) (by omega) rfl rfl ?_
  refine bj 5 U64 0 rfl rfl Tryz.isAgg24 (by rw [hm]; omega) rfl rfl ?_
  refine ah rfl rfl (fun _ => rfl) (fun _ => f5 _ _ _ (by decide)) rfl rfl ?_
  refine ah (v := .bool false) rfl rfl (fun _ => rfl) (fun w => (bw _ _ _).trans (congrArg (fun b => Result.ok (Value.bool b) w) (beq_eq_false_iff_ne.2 h0))) rfl rfl ?_
  refine aa ?_
  refine bg rfl ?_
  refine aD ?_
  refine aj ?_
  refine ab (E := EE []) ?_
  refine ay 3 rfl rfl Tryz.isAgg25 Tryz.sizeOf25 (by rw [List.length_map, ha]) rfl rfl ?_
  refine ay 5 rfl rfl Tryz.isAgg25 Tryz.sizeOf25 (by rw [List.length_map, hm]) rfl rfl ?_
  refine az rfl rfl ent103 (iO a m ha hm) rfl rfl ?_
  refine bH (v := .bool true) rfl (fun _ => (bt _).trans (by rw [h1]; rfl)) rfl rfl ?_
  refine aa ?_
  refine bF rfl ?_
  refine ab (E := EE []) ?_
  refine bM 7 hGF zv168 rfl rfl ?_
  intro b7
  refine aa ?_
  refine bl (E := EE []) bi (by kernel_rfl) (by kernel_rfl) (by kernel_rfl) ?_
  refine fq (l := 0) (h' := 12) rfl Tryz.underlying168 Tryz.sizeOf24 rfl rfl (by omega) (by omega) rfl rfl ?_
  refine fq (l := 0) (h' := 6) rfl Tryz.underlying25 Tryz.sizeOf24 rfl rfl (by omega) (by omega) rfl rfl ?_
  refine y4 (cs := a.map U64) 7 hGF rfl rfl rfl Tryz.underlying169 Di (by rw [List.length_map, ha]; rfl) (fun w' h j v hv => by rw [Addr.add_mid]; exact cx (n := 3) rfl w' h j v hv) (ak _) (by rw [List.length_map, List.length_map, ha]; decide) rfl rfl ?_
  rw [sW a ha]
  refine aa ?_
  refine av (E := EE []) ?_
  refine ay 7 rfl rfl Tryz.isAgg168 Tryz.sizeOf168 (by rw [List.length_map, List.length_append, ha, List.length_replicate]) rfl rfl ?_
  refine ay 5 rfl rfl Tryz.isAgg25 Tryz.sizeOf25 (by rw [List.length_map, hm]) rfl rfl ?_
  refine az rfl rfl ent144 (wN (a ++ List.replicate 6 0) m (by rw [List.length_append, ha]; rfl) hm) rfl rfl ?_
  refine ao 3 hGF rfl rfl rfl Tryz.sizeOf25 (by rw [List.length_map, mQ _ _]) (by rw [List.length_map, ha]) (ak _) rfl ?_
  refine aa ?_
  refine ab (E := EE []) ?_
  refine bm (0) rfl rfl Tryz.underlying25 Tryz.sizeOf24 (by omega) (by omega) rfl rfl ?_
  refine bj 5 U64 0 rfl rfl Tryz.isAgg24 (by rw [hm]; omega) rfl rfl ?_
  refine az rfl rfl ent145 (g8 _) rfl rfl ?_
  refine bH rfl (fun _ => kN _) rfl rfl ?_
  refine aK rfl rfl rfl ?_
  generalize hcl : -(IV (m.getD 0 0) 5) = cl
  refine aa ?_
  refine ab (E := EE []) ?_
  refine bM 9 hGF zv25 rfl rfl ?_
  intro b9
  refine aa ?_
  refine ab (E := EE []) ?_
  refine aK rfl rfl rfl ?_
  refine aa ?_
  refine aj ?_
  refine ab (E := EE []) ?_
  refine ay 3 rfl rfl Tryz.isAgg25 Tryz.sizeOf25 (by rw [List.length_map, mQ _ _]) rfl rfl ?_
  refine aC rfl rfl rfl ?_
  refine aa ?_
  refine am ?_
  refine cp (ι := { i : Nat // i ≤ 6 }) (fun x => [(4, .pointer (some ⟨b4, 0, none⟩)), (5, .pointer (some ⟨b5, 0, none⟩)), (6, .pointer (some ⟨b6, 0, none⟩)), (8, U64 cl), (9, .pointer (some ⟨b9, 0, none⟩)), (10, U64 (MO (MOD (a ++ List.replicate 6 0) m) b m cl x.1).2), (38, .agg (((MOD (a ++ List.replicate 6 0) m)).map U64).toArray), (39, I (x.1 : Int))]) (fun x => [(4, b4, b.map U64, 25), (5, b5, m.map U64, 25), (6, b6, (List.replicate 6 0#64).map U64, 25), (9, b9, (MO (MOD (a ++ List.replicate 6 0) m) b m cl x.1).1.map U64, 25)]) (fun x => 6 - x.1) ⟨0, by omega⟩ hGF ⟨rfl, rfl, rfl, rfl, rfl, rfl, rfl, rfl, trivial⟩ ⟨rfl, rfl, rfl, rfl, trivial⟩ ?_
  rintro ⟨i, hi⟩
  dsimp only
  refine ab (E := EE []) ?_
  refine ah rfl rfl (fun _ => rfl) (fun _ => aA _ _ _) rfl rfl ?_
  refine aa ?_
  refine aj ?_
  refine bZ rfl (fun hc => ?_) (fun hc => ?_)
  ·simp only [decide_eq_true_eq] at hc
   refine aD ?_
   refine aj ?_
   refine am ?_
   refine ab (E := EE []) ?_
   refine jl U64 0 (i) rfl rfl Tryz.underlying25 Tryz.sizeOf24 Tryz.isAgg24 (by omega) (by omega) (mQ _ _) rfl rfl ?_
   refine aK rfl rfl rfl ?_
   refine aa ?_
   refine ab (E := EE []) ?_
   refine aK rfl rfl rfl ?_
   refine aK rfl rfl rfl ?_
   refine aa ?_
   refine aj ?_
   refine ab (E := EE []) ?_
   refine ay 4 rfl rfl Tryz.isAgg25 Tryz.sizeOf25 (by rw [List.length_map, hb]) rfl rfl ?_
   refine aC rfl rfl rfl ?_
   refine aa ?_
   refine am ?_
   refine cp (ι := { i : Nat // i ≤ 6 }) (fun x => [(4, .pointer (some ⟨b4, 0, none⟩)), (5, .pointer (some ⟨b5, 0, none⟩)), (6, .pointer (some ⟨b6, 0, none⟩)), (8, U64 cl), (9, .pointer (some ⟨b9, 0, none⟩)), (10, U64 (MO (MOD (a ++ List.replicate 6 0) m) b m cl i).2), (38, .agg (((MOD (a ++ List.replicate 6 0) m)).map U64).toArray), (39, I (i : Int)), (12, U64 ((MOD (a ++ List.replicate 6 0) m).getD i 0)), (13, U64 (MJ ((MOD (a ++ List.replicate 6 0) m).getD i 0) b (MO (MOD (a ++ List.replicate 6 0) m) b m cl i).1 x.1).2), (14, U64 0), (42, .agg ((b).map U64).toArray), (43, I (x.1 : Int))]) (fun x => [(4, b4, b.map U64, 25), (5, b5, m.map U64, 25), (6, b6, (List.replicate 6 0#64).map U64, 25), (9, b9, (MJ ((MOD (a ++ List.replicate 6 0) m).getD i 0) b (MO (MOD (a ++ List.replicate 6 0) m) b m cl i).1 x.1).1.map U64, 25)]) (fun x => 6 - x.1) ⟨0, by omega⟩ hGF ⟨rfl, rfl, rfl, rfl, rfl, rfl, rfl, rfl, rfl, rfl, rfl, rfl, rfl, trivial⟩ ⟨rfl, rfl, rfl, rfl, trivial⟩ ?_
   rintro ⟨j, hj⟩
   dsimp only
   refine ab (E := EE []) ?_
   refine ah rfl rfl (fun _ => rfl) (fun _ => aA _ _ _) rfl rfl ?_
   refine aa ?_
   refine aj ?_
   refine bZ rfl (fun hc => ?_) (fun hc => ?_)
   ·simp only [decide_eq_true_eq] at hc
    refine aD ?_
    refine aj ?_
    refine am ?_
    refine ab (E := EE []) ?_
    refine aC rfl rfl rfl ?_
    refine jl U64 0 (j) rfl rfl Tryz.underlying25 Tryz.sizeOf24 Tryz.isAgg24 (by omega) (by omega) (hb) rfl rfl ?_
    refine aK rfl rfl rfl ?_
    refine aK rfl rfl rfl ?_
    refine aa ?_
    refine av (E := EE []) ?_
    refine aC rfl rfl rfl ?_
    refine aC rfl rfl rfl ?_
    refine aC rfl rfl rfl ?_
    refine aC rfl rfl rfl ?_
    refine bm (j) rfl rfl Tryz.underlying25 Tryz.sizeOf24 (by omega) (by omega) rfl rfl ?_
    refine bj 9 U64 0 rfl rfl Tryz.isAgg24 (by rw [ga, cL]; omega) rfl rfl ?_
    refine aC rfl rfl rfl ?_
    refine az rfl rfl ent146 (cQ _ _ _ _) rfl rfl ?_
    refine aC rfl rfl rfl ?_
    refine ch rfl rfl rfl rfl ?_
    refine ch rfl rfl rfl rfl ?_
    refine bm (j) rfl rfl Tryz.underlying25 Tryz.sizeOf24 (by omega) (by omega) rfl rfl ?_
    refine cw 9 U64 hGF rfl rfl rfl Tryz.sizeOf24 rfl (by rw [ga, cL]; omega) rfl ?_
    refine aK rfl rfl rfl ?_
    refine aa ?_
    refine av (E := EE []) ?_
    refine ah rfl rfl (fun _ => rfl) (fun _ => aO _ _ _ (by unfold inI; omega)) rfl rfl ?_
    refine aC rfl rfl rfl ?_
    refine aa ?_
    repeat (refine a6 ?_)
    refine bC ?_
    exact ⟨rfl, ⟨j + 1, by omega⟩, _, by show 6 - (j + 1) < 6 - j; omega, rfl, ⟨rfl, rfl, rfl, rfl, rfl, rfl, rfl, rfl, rfl, rfl, rfl, rfl, rfl, trivial⟩, ⟨rfl, rfl, rfl, rfl, trivial⟩⟩
   ·obtain rfl : j = 6 := by simp at hc; omega
    generalize hS : MJ ((MOD (a ++ List.replicate 6 0) m).getD i 0) b (MO (MOD (a ++ List.replicate 6 0) m) b m cl i).1 6 = S1
    have hSl : S1.1.length = 6 := by rw [← hS, ga, cL]
    refine bf ?_
    refine ab (E := EE []) ?_
    refine aC rfl rfl rfl ?_
    refine aC rfl rfl rfl ?_
    refine eQ rfl rfl (fun w => jY _ _ _ (by decide) w) rfl rfl ?_
    refine aC rfl rfl rfl ?_
    refine ch rfl rfl rfl rfl ?_
    refine ch rfl rfl rfl rfl ?_
    refine aK rfl rfl rfl ?_
    refine aK rfl rfl rfl ?_
    refine aa ?_
    refine ab (E := EE []) ?_
    refine bm (0) rfl rfl Tryz.underlying25 Tryz.sizeOf24 (by omega) (by omega) rfl rfl ?_
    refine bj 9 U64 0 rfl rfl Tryz.isAgg24 (by rw [hSl]; omega) rfl rfl ?_
    refine aC rfl rfl rfl ?_
    refine ah rfl rfl (fun _ => rfl) (fun _ => ci _ _ _) rfl rfl ?_
    refine aK rfl rfl rfl ?_
    refine aa ?_
    refine ab (E := EE []) ?_
    refine aC rfl rfl rfl ?_
    refine bm (0) rfl rfl Tryz.underlying25 Tryz.sizeOf24 (by omega) (by omega) rfl rfl ?_
    refine bj 5 U64 0 rfl rfl Tryz.isAgg24 (by rw [hm]; omega) rfl rfl ?_
    refine bm (0) rfl rfl Tryz.underlying25 Tryz.sizeOf24 (by omega) (by omega) rfl rfl ?_
    refine bj 9 U64 0 rfl rfl Tryz.isAgg24 (by rw [hSl]; omega) rfl rfl ?_
    refine az rfl rfl ent146 (cQ _ _ _ _) rfl rfl ?_
    refine aC rfl rfl rfl ?_
    refine ch rfl rfl rfl rfl ?_
    refine ch rfl rfl rfl rfl ?_
    refine aK rfl rfl rfl ?_
    refine aa ?_
    refine aj ?_
    refine ab (E := EE []) ?_
    refine aK rfl rfl rfl ?_
    refine aa ?_
    refine am ?_
    refine cp (ι := { i : Nat // i ≤ 5 }) (fun x => [(4, .pointer (some ⟨b4, 0, none⟩)), (5, .pointer (some ⟨b5, 0, none⟩)), (6, .pointer (some ⟨b6, 0, none⟩)), (8, U64 cl), (9, .pointer (some ⟨b9, 0, none⟩)), (10, U64 (ADC (MO (MOD (a ++ List.replicate 6 0) m) b m cl i).2 S1.2 0).1), (38, .agg (((MOD (a ++ List.replicate 6 0) m)).map U64).toArray), (39, I (i : Int)), (14, U64 (ADC (MO (MOD (a ++ List.replicate 6 0) m) b m cl i).2 S1.2 0).2), (17, U64 (S1.1.getD 0 0 * cl)), (13, U64 (MR (S1.1.getD 0 0 * cl) m S1.1 x.1).2), (18, I ((x.1 + 1 : Nat) : Int))]) (fun x => [(4, b4, b.map U64, 25), (5, b5, m.map U64, 25), (6, b6, (List.replicate 6 0#64).map U64, 25), (9, b9, (MR (S1.1.getD 0 0 * cl) m S1.1 x.1).1.map U64, 25)]) (fun x => 5 - x.1) ⟨0, by omega⟩ hGF ⟨rfl, rfl, rfl, rfl, rfl, rfl, rfl, rfl, rfl, rfl, rfl, rfl, trivial⟩ ⟨rfl, rfl, rfl, rfl, trivial⟩ ?_
    rintro ⟨r, hr⟩
    dsimp only
    refine aj ?_
    refine ab (E := EE []) ?_
    refine aC rfl rfl rfl ?_
    refine ah rfl rfl (fun _ => rfl) (fun _ => aA _ _ _) rfl rfl ?_
    refine aa ?_
    refine bZ rfl (fun hc => ?_) (fun hc => ?_)
    ·simp only [decide_eq_true_eq] at hc
     refine aD ?_
     refine aj ?_
     refine am ?_
     refine c9 (E := EE []) bi (by kernel_rfl) (by kernel_rfl) (by kernel_rfl) ?_
     refine aC rfl rfl rfl ?_
     refine ah (v := I (r : Int)) rfl rfl (fun _ => rfl) (fun _ => (bL _ _ _ (by unfold inI; omega)).trans (by rw [show (((r + 1 : Nat) : Int) - 1) = (r : Int) by omega])) rfl rfl ?_
     refine aC rfl rfl rfl ?_
     refine aC rfl rfl rfl ?_
     refine bm ((r + 1)) rfl rfl Tryz.underlying25 Tryz.sizeOf24 (by omega) (by omega) rfl rfl ?_
     refine bj 5 U64 0 rfl rfl Tryz.isAgg24 (by rw [hm]; omega) rfl rfl ?_
     refine aC rfl rfl rfl ?_
     refine bm ((r + 1)) rfl rfl Tryz.underlying25 Tryz.sizeOf24 (by omega) (by omega) rfl rfl ?_
     refine bj 9 U64 0 rfl rfl Tryz.isAgg24 (by rw [eT, hSl]; omega) rfl rfl ?_
     refine aC rfl rfl rfl ?_
     refine az rfl rfl ent146 (cQ _ _ _ _) rfl rfl ?_
     refine aC rfl rfl rfl ?_
     refine ch rfl rfl rfl rfl ?_
     refine ch rfl rfl rfl rfl ?_
     refine bm (r) rfl rfl Tryz.underlying25 Tryz.sizeOf24 (by omega) (by omega) rfl rfl ?_
     refine cw 9 U64 hGF rfl rfl rfl Tryz.sizeOf24 rfl (by rw [eT, hSl]; omega) rfl ?_
     refine aK rfl rfl rfl ?_
     refine aa ?_
     refine av (E := EE []) ?_
     refine aC rfl rfl rfl ?_
     refine ah rfl rfl (fun _ => rfl) (fun _ => aO _ _ _ (by unfold inI; omega)) rfl rfl ?_
     refine aK rfl rfl rfl ?_
     refine aa ?_
     repeat (refine a6 ?_)
     refine bC ?_
     exact ⟨rfl, ⟨r + 1, by omega⟩, _, by show 5 - (r + 1) < 5 - r; omega, rfl, ⟨rfl, rfl, rfl, rfl, rfl, rfl, rfl, rfl, rfl, rfl, rfl, rfl, trivial⟩, ⟨rfl, rfl, rfl, rfl, trivial⟩⟩
    ·obtain rfl : r = 5 := by simp at hc; omega
     generalize hM : MR (S1.1.getD 0 0 * cl) m S1.1 5 = R1
     have hRl : R1.1.length = 6 := by rw [← hM, eT, hSl]
     refine bf ?_
     refine ab (E := EE []) ?_
     refine aC rfl rfl rfl ?_
     refine aC rfl rfl rfl ?_
     refine eQ rfl rfl (fun w => jY _ _ _ (by decide) w) rfl rfl ?_
     refine aC rfl rfl rfl ?_
     refine ch rfl rfl rfl rfl ?_
     refine ch rfl rfl rfl rfl ?_
     refine bm (5) rfl rfl Tryz.underlying25 Tryz.sizeOf24 (by omega) (by omega) rfl rfl ?_
     refine cw 9 U64 hGF rfl rfl rfl Tryz.sizeOf24 rfl (by rw [hRl]; omega) rfl ?_
     refine aK rfl rfl rfl ?_
     refine aa ?_
     refine av (E := EE []) ?_
     refine aC rfl rfl rfl ?_
     refine aC rfl rfl rfl ?_
     refine ah rfl rfl (fun _ => rfl) (fun _ => cE _ _ _) rfl rfl ?_
     refine aK rfl rfl rfl ?_
     refine aa ?_
     refine av (E := EE []) ?_
     refine ah rfl rfl (fun _ => rfl) (fun _ => aO _ _ _ (by unfold inI; omega)) rfl rfl ?_
     refine aC rfl rfl rfl ?_
     refine aa ?_
     repeat (refine a6 ?_)
     refine bC ?_
     exact ⟨rfl, ⟨i + 1, by omega⟩, _, by show 6 - (i + 1) < 6 - i; omega, rfl, ⟨rfl, rfl, rfl, rfl, rfl, by rw [jx (MOD (a ++ List.replicate 6 0) m) b m cl i hS hM]; rfl, rfl, rfl, trivial⟩, ⟨rfl, rfl, rfl, by rw [jx (MOD (a ++ List.replicate 6 0) m) b m cl i hS hM]; rfl, trivial⟩⟩
  ·obtain rfl : i = 6 := by simp at hc; omega
   refine bf ?_
   refine ab (E := EE []) ?_
   refine ay 9 rfl rfl Tryz.isAgg25 Tryz.sizeOf25 (by rw [List.length_map, cL]) rfl rfl ?_
   refine aC rfl rfl rfl ?_
   refine ay 5 rfl rfl Tryz.isAgg25 Tryz.sizeOf25 (by rw [List.length_map, hm]) rfl rfl ?_
   refine az rfl rfl ent148 (ld _ _ _ (cL _ _ _ _ _) hm) rfl rfl ?_
   refine ao 6 hGF rfl rfl rfl Tryz.sizeOf25 (by rw [List.length_map, fE _ _ _ (cL _ _ _ _ _)]) (by rw [List.length_map, List.length_replicate]) (ak _) rfl ?_
   refine aa ?_
   refine cG ?_
   repeat (first | refine aQ ?_ | refine aP ?_)
   exact aw 6 rfl rfl rfl Tryz.isAgg25 Tryz.sizeOf25 (by rw [List.length_map]; exact fE _ _ _ (cL _ _ _ _ _)) (fun w hw => ⟨by rw [dO, if_neg h0, if_neg (by rw [h1]; decide), MN, hcl], ac hw⟩)
end
section
open Go.RowKit
theorem rN8 {Q P : Prop} (k : Q) (h : Q → P := by intro k; (refine LY.run ?_); (repeat (first | refine bK rfl rfl rfl ?_ | refine bk rfl rfl rfl ?_)); (first | refine cn ?_ | refine LY.mk ?_); exact k) : P := h k
theorem pN8 {Q P : Prop} (k : Q) (h : Q → P := by intro k; (refine xp ?_); (refine rN8 ?_); exact k) : P := h k
theorem jO (a : Option Addr) (cap : Nat) (bs : List (BitVec 8)) (w : World) (hw : Gt w) (hby : BytesAt w a bs) :
  Calls Tryz.prog 62 [.slice a bs.length cap].toArray w (fun e w' => e = .returned (if 48 < bs.length then .tuple #[.agg ((List.replicate 6 0#64).map U64).toArray, .bool false] else .tuple #[.agg ((FRs bs bs.length).map U64).toArray, .bool true]) ∧ Grow w w') := by
 have hGF : BOk Gt (pl w) := gt_low.plain hw
 refine aN (G := Gt) Tryz.func62 rfl rfl (Hp (pl w) []) (aZ (pl w) trivial ai) (ap hGF) ?_
 by_cases hA : 48 < bs.length
 ·skip
  refine xp ?_
  refine la zv25 fun b2 => ?_
  refine rN8 ?_
  refine xp ?_
  refine la zv25 fun b4 => ?_
  refine aa ?_
  refine aj ?_
  refine pN8 ?_
  refine aX rfl (fun _ => au Tryz.underlying22 _ _ _ _) rfl rfl ?_
  refine ah (v := .bool true) rfl rfl (fun _ => rfl) (fun _ => (bv _ _ _).trans (by rw [decide_eq_true (by omega : ((bs.length : Int) > 48))])) rfl rfl ?_
  refine aa ?_
  refine bF rfl ?_
  refine xp ?_
  refine ay 4 rfl rfl Tryz.isAgg25 Tryz.sizeOf25 (by rw [List.length_map, List.length_replicate]) rfl rfl ?_
  refine ao 2 hGF rfl rfl rfl Tryz.sizeOf25 (by rw [List.length_map, List.length_replicate]) (by rw [List.length_map, List.length_replicate]) (ak _) rfl ?_
  refine rN8 ?_
  refine rt ?_
  exact fM 2 rfl rfl rfl rfl Tryz.isAgg25 Tryz.sizeOf25 (by rw [List.length_map, List.length_replicate]) (fun w hw => ⟨by rw [if_pos hA]; rfl, ac hw⟩)
 ·skip
  refine xp ?_
  refine la zv25 fun b2 => ?_
  refine rN8 ?_
  refine xp ?_
  refine la zv25 fun b4 => ?_
  refine aa ?_
  refine aj ?_
  refine pN8 ?_
  refine aX rfl (fun _ => au Tryz.underlying22 _ _ _ _) rfl rfl ?_
  refine ah (v := .bool false) rfl rfl (fun _ => rfl) (fun _ => (bv _ _ _).trans (by rw [decide_eq_false (by omega : ¬ ((bs.length : Int) > 48))])) rfl rfl ?_
  refine aa ?_
  refine bg rfl ?_
  refine aD ?_
  refine aj ?_
  refine pN8 ?_
  refine aX rfl (fun _ => au Tryz.underlying22 _ _ _ _) rfl rfl ?_
  refine rN8 ?_
  refine am ?_
  refine cp (ι := { i : Nat // i ≤ bs.length }) (fun x => [(0, .slice a bs.length cap), (2, .pointer (some ⟨b2, 0, none⟩)), (4, .pointer (some ⟨b4, 0, none⟩)), (12, .slice a bs.length cap), (13, I (bs.length : Int)), (14, I (x.1 : Int))]) (fun x => [(2, b2, (List.replicate 6 0#64).map U64, 25), (4, b4, (FRs bs x.1).map U64, 25)]) (fun x => bs.length - x.1) ⟨0, by omega⟩ hGF ⟨rfl, rfl, rfl, rfl, rfl, rfl, trivial⟩ ⟨rfl, rfl, trivial⟩ ?_
  rintro ⟨i, hi⟩
  dsimp only
  refine xp ?_
  refine ah rfl rfl (fun _ => rfl) (fun _ => aA _ _ _) rfl rfl ?_
  refine aa ?_
  refine aj ?_
  refine bZ rfl (fun hc => ?_) (fun hc => ?_)
  ·simp only [decide_eq_true_eq] at hc
   refine aD ?_
   refine aj ?_
   refine am ?_
   refine pN8 ?_
   obtain ⟨ad, rfl, _⟩ := hby i _ (gm U8 bs 0 i (by omega))
   refine c8 i rfl rfl Tryz.underlying22 Tryz.sizeOf5 rfl (by omega) rfl rfl ?_
   refine bJ rfl Tryz.isAgg5 (fun w' h => by obtain ⟨ad', e, hc⟩ := (hby.grow (ac h)) i _ (gm U8 bs 0 i (by omega)); cases e; exact hc) rfl rfl ?_
   refine rN8 ?_
   refine pN8 ?_
   refine aX rfl (fun _ => au Tryz.underlying22 _ _ _ _) rfl rfl ?_
   refine ah (v := I ((bs.length : Int) - 1)) rfl rfl (fun _ => rfl) (fun _ => bL _ _ _ (by unfold inI; omega)) rfl rfl ?_
   refine rN8 ?_
   refine ah (v := I ((bs.length - 1 - i : Nat) : Int)) rfl rfl (fun _ => rfl) (fun _ => (bL _ _ _ (by unfold inI; omega)).trans (by rw [show ((bs.length : Int) - 1 - (i : Int)) = ((bs.length - 1 - i : Nat) : Int) by omega])) rfl rfl ?_
   refine rN8 ?_
   refine c9 (E := EE []) bi (by kernel_rfl) (by kernel_rfl) (by kernel_rfl) ?_
   refine rN8 ?_
   refine ah (v := I (((bs.length - 1 - i) / 8 : Nat) : Int)) rfl rfl (fun _ => rfl) (fun _ => lQ _ _ _ (by decide) (show inI (((bs.length - 1 - i) / 8 : Nat) : Int) by unfold inI; omega)) rfl rfl ?_
   refine bm (((bs.length - 1 - i) / 8)) rfl rfl Tryz.underlying25 Tryz.sizeOf24 (by omega) (by omega) rfl rfl ?_
   refine bj 4 U64 0 rfl rfl Tryz.isAgg24 (by rw [aF]; omega) rfl rfl ?_
   refine rN8 ?_
   refine ju rfl rfl (fun _ => oG Tryz.underlying5 Tryz.underlying24 _) rfl rfl ?_
   refine rN8 ?_
   refine ah (v := I (((bs.length - 1 - i) % 8 : Nat) : Int)) rfl rfl (fun _ => rfl) (fun _ => dZ _ _ _ (by decide)) rfl rfl ?_
   refine ah (v := I ((8 * ((bs.length - 1 - i) % 8) : Nat) : Int)) rfl rfl (fun _ => rfl) (fun _ => (iB _ _ _ (by unfold inI; omega)).trans (by rw [show (8 : Int) * (((bs.length - 1 - i) % 8 : Nat) : Int) = ((8 * ((bs.length - 1 - i) % 8) : Nat) : Int) by omega])) rfl rfl ?_
   refine ah (v := U64 ((bs.getD i 0).setWidth 64 <<< (8 * ((bs.length - 1 - i) % 8)))) rfl rfl (fun _ => rfl) (fun _ => li _ _ _ (by omega)) rfl rfl ?_
   refine ah rfl rfl (fun _ => rfl) (fun _ => k9 _ _ _) rfl rfl ?_
   refine bm (((bs.length - 1 - i) / 8)) rfl rfl Tryz.underlying25 Tryz.sizeOf24 (by omega) (by omega) rfl rfl ?_
   refine cw 4 U64 hGF rfl rfl rfl Tryz.sizeOf24 rfl (by rw [aF]; omega) rfl ?_
   refine aa ?_
   refine av (E := EE []) ?_
   refine ah rfl rfl (fun _ => rfl) (fun _ => aO _ _ _ (by unfold inI; omega)) rfl rfl ?_
   refine rN8 ?_
   repeat (refine a6 ?_)
   refine bC ?_
   exact ⟨rfl, ⟨i + 1, by omega⟩, _, by show bs.length - (i + 1) < bs.length - i; omega, rfl, ⟨rfl, rfl, rfl, rfl, rfl, rfl, trivial⟩, ⟨rfl, rfl, trivial⟩⟩
  ·obtain rfl : i = bs.length := by simp at hc; omega
   refine bf ?_
   refine xp ?_
   refine ay 4 rfl rfl Tryz.isAgg25 Tryz.sizeOf25 (by rw [List.length_map, aF]) rfl rfl ?_
   refine ao 2 hGF rfl rfl rfl Tryz.sizeOf25 (by rw [List.length_map, aF _ _]) (by rw [List.length_map, List.length_replicate]) (ak _) rfl ?_
   refine rN8 ?_
   refine rt ?_
   exact fM 2 rfl rfl rfl rfl Tryz.isAgg25 Tryz.sizeOf25 (by rw [List.length_map, aF]) (fun w hw => ⟨by rw [if_neg hA]; rfl, ac hw⟩)
theorem mO (a : List (BitVec 64)) (ha : a.length = 6) : Pure Tryz.prog Gt 80 [.agg ((a).map U64).toArray] (.agg ((BYs a 48).map U8).toArray) := by
 refine a7 Tryz.func80 fun w hw hGF => ?_
 refine xp ?_
 refine lb fun b1 => ?_
 refine la zv115 fun b2 => ?_
 refine aa ?_
 refine xp ?_
 refine la zv115 fun b3 => ?_
 refine aa ?_
 refine aj ?_
 refine pN8 ?_
 refine am ?_
 refine cp (ι := { i : Nat // i ≤ 48 }) (fun x => [(1, .pointer (some ⟨b1, 0, none⟩)), (2, .pointer (some ⟨b2, 0, none⟩)), (3, .pointer (some ⟨b3, 0, none⟩)), (6, I (x.1 : Int))]) (fun x => [(1, b1, a.map U64, 25), (2, b2, (List.replicate 48 0#8).map U8, 115), (3, b3, (BYs a x.1).map U8, 115)]) (fun x => 48 - x.1) ⟨0, by omega⟩ hGF ⟨rfl, rfl, rfl, rfl, trivial⟩ ⟨rfl, rfl, rfl, trivial⟩ ?_
 rintro ⟨i, hi⟩
 dsimp only
 refine xp ?_
 refine ah rfl rfl (fun _ => rfl) (fun _ => aA _ _ _) rfl rfl ?_
 refine aa ?_
 refine aj ?_
 refine bZ rfl (fun hc => ?_) (fun hc => ?_)
 ·simp only [decide_eq_true_eq] at hc
  refine aD ?_
  refine aj ?_
  refine am ?_
  refine pN8 ?_
  refine pN8 ?_
  refine ah (v := I ((47 - i : Nat) : Int)) rfl rfl (fun _ => rfl) (fun _ => (bL _ _ _ (by unfold inI; omega)).trans (by rw [show ((47 : Int) - (i : Int)) = ((47 - i : Nat) : Int) by omega])) rfl rfl ?_
  refine rN8 ?_
  refine av (E := EE []) ?_
  refine rN8 ?_
  refine ah (v := I (((47 - i) / 8 : Nat) : Int)) rfl rfl (fun _ => rfl) (fun _ => lQ _ _ _ (by decide) (show inI (((47 - i) / 8 : Nat) : Int) by unfold inI; omega)) rfl rfl ?_
  refine bm (((47 - i) / 8)) rfl rfl Tryz.underlying25 Tryz.sizeOf24 (by omega) (by omega) rfl rfl ?_
  refine bj 1 U64 0 rfl rfl Tryz.isAgg24 (by rw [ha]; omega) rfl rfl ?_
  refine rN8 ?_
  refine ah (v := I (((47 - i) % 8 : Nat) : Int)) rfl rfl (fun _ => rfl) (fun _ => dZ _ _ _ (by decide)) rfl rfl ?_
  refine ah (v := I ((8 * ((47 - i) % 8) : Nat) : Int)) rfl rfl (fun _ => rfl) (fun _ => (iB _ _ _ (by unfold inI; omega)).trans (by rw [show (8 : Int) * (((47 - i) % 8 : Nat) : Int) = ((8 * ((47 - i) % 8) : Nat) : Int) by omega])) rfl rfl ?_
  refine ah (v := U64 (a.getD ((47 - i) / 8) 0 >>> (8 * ((47 - i) % 8)))) rfl rfl (fun _ => rfl) (fun _ => eZ _ _ _ (by omega)) rfl rfl ?_
  refine ju rfl rfl (fun _ => i1 Tryz.underlying24 Tryz.underlying5 _) rfl rfl ?_
  refine bm (i) rfl rfl Tryz.underlying115 Tryz.sizeOf5 (by omega) (by omega) rfl rfl ?_
  refine cw 3 U8 hGF rfl rfl rfl Tryz.sizeOf5 rfl (by rw [aE]; omega) rfl ?_
  refine aa ?_
  refine av (E := EE []) ?_
  refine ah rfl rfl (fun _ => rfl) (fun _ => aO _ _ _ (by unfold inI; omega)) rfl rfl ?_
  refine rN8 ?_
  repeat (refine a6 ?_)
  refine bC ?_
  exact ⟨rfl, ⟨i + 1, by omega⟩, _, by show 48 - (i + 1) < 48 - i; omega, rfl, ⟨rfl, rfl, rfl, rfl, trivial⟩, ⟨rfl, rfl, rfl, trivial⟩⟩
 ·obtain rfl : i = 48 := by simp at hc; omega
  refine bf ?_
  refine xp ?_
  refine ay 3 rfl rfl Tryz.isAgg115 Tryz.sizeOf115 (by rw [List.length_map, aE]) rfl rfl ?_
  refine ao 2 hGF rfl rfl rfl Tryz.sizeOf115 (by rw [List.length_map, aE _ _]) (by rw [List.length_map, List.length_replicate]) (iS _) rfl ?_
  refine aa ?_
  refine rt ?_
  exact aw 2 rfl rfl rfl Tryz.isAgg115 Tryz.sizeOf115 (by rw [List.length_map, aE]) (fun w hw => ⟨rfl, ac hw⟩)
def BT (a : List (BitVec 64)) : List (List Value) := (dq a 384).map fun n : Nat => [I (n : Int)]
theorem DK (a : List (BitVec 64)) : (BT a).length = (dq a 384).length := by simp [BT]
theorem GU (a : List (BitVec 64)) (k : Nat) (hk : k < 384) (h : dig a (383 - k) = 1) : (BT a)[(dq a k).length]? = some [I ((383 - k : Nat) : Int)] := by
 rw [BT, List.getElem?_map, yQ a k hk h]
 rfl
theorem nI (a : List (BitVec 64)) (k : Nat) (h : dig a (383 - k) = 1) : (dq a (k + 1)).length = (dq a k).length + 1 := by rw [dq, if_pos h]; simp
theorem xi (a : List (BitVec 64)) (k : Nat) (h : ¬ dig a (383 - k) = 1) : (dq a (k + 1)).length = (dq a k).length := by rw [dq, if_neg h]
end
end Go.Proofs.YtpnpiblphnpfiaaGreatDoor
