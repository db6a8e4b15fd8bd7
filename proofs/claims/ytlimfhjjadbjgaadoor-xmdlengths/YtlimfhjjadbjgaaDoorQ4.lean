/-
  The document's texts made long.
  The walk of the document's Expand.
  The law XmdExpands.
-/
import Derived.Test.YtlimfhjjadbjgaaDoorQ3
import Derived.Test.YtlimfhjjadbjgaaDoorX3
import Derived.Test.YtlimfhjjadbjgaaDoorX2
namespace Go.Proofs.YtlimfhjjadbjgaaDoor
open Go.RowKit
set_option maxRecDepth 100000
set_option maxHeartbeats 1000000

namespace Xm
theorem zv55 (w : World) : (zeroValue 55).run Tryd.prog w = .ok (.agg ((List.replicate 32 (0#8)).map U8).toArray) w := Sh.zv55 w
theorem ti5 : TI Tryd.prog 5 (.int .u8 0) 1 1 := Sh.ti5
/-- A tag and its length. -/
def D (dst : List (BitVec 8)) : List (BitVec 8) := dst ++ [BitVec.ofInt 8 (dst.length : Int)]
theorem D_len (dst : List (BitVec 8)) : (D dst).length = dst.length + 1 := by simp [D]
/-- What is summed first. -/
def F (msg dst : List (BitVec 8)) (n : Nat) : List (BitVec 8) := ((List.replicate 64 0#8 ++ msg) ++ [BitVec.ofInt 8 ((n / 256 : Nat) : Int), BitVec.ofInt 8 (n : Int), 0#8]) ++ D dst
theorem F_len (msg dst : List (BitVec 8)) (n : Nat) : (F msg dst n).length = 64 + msg.length + 3 + (dst.length + 1) := by
  rw [F, List.length_append, List.length_append, List.length_append, List.length_replicate, D_len]; rfl
def B0 (msg dst : List (BitVec 8)) (n : Nat) : List (BitVec 8) := Sh.SHA (F msg dst n)
theorem B0_len (msg dst : List (BitVec 8)) (n : Nat) : (B0 msg dst n).length = 32 := Sh.SHA_len _
/-- Unlike bits, so far. -/
def R (b l : List (BitVec 8)) : Nat → List (BitVec 8)
  | 0 => b
  | j + 1 => (R b l j).set j (b.getD j 0 ^^^ l.getD j 0)
theorem R_len (b l : List (BitVec 8)) : ∀ j, (R b l j).length = b.length
  | 0 => rfl
  | j + 1 => by rw [R, List.length_set, R_len b l j]
/-- The sums, one by one. -/
def Xk (b d : List (BitVec 8)) : Nat → List (BitVec 8)
  | 0 => List.replicate 32 0#8
  | k + 1 => Sh.SHA (((if k = 0 then b else R b (Xk b d k) 32) ++ [BitVec.ofInt 8 ((k + 1 : Nat) : Int)]) ++ d)
theorem Xk_len (b d : List (BitVec 8)) : ∀ k, (Xk b d k).length = 32
  | 0 => List.length_replicate
  | _ + 1 => Sh.SHA_len _
/-- The sums behind one another. -/
def O (b d : List (BitVec 8)) : Nat → List (BitVec 8)
  | 0 => []
  | k + 1 => O b d k ++ Xk b d (k + 1)
theorem O_len (b d : List (BitVec 8)) : ∀ k, (O b d k).length = 32 * k
  | 0 => rfl
  | k + 1 => by rw [O, List.length_append, O_len b d k, Xk_len]; omega
/-- The text made long. -/
def E (msg dst : List (BitVec 8)) (n : Nat) : List (BitVec 8) := (O (B0 msg dst n) (D dst) ((n + 31) / 32)).take n
theorem E_len (msg dst : List (BitVec 8)) (n : Nat) : (E msg dst n).length = n := by rw [E, List.length_take, O_len]; omega
/-- Bytes of a block of our own. -/
structure Bk (xs : List (BitVec 8)) where
  (b : Nat) (c : List Value)
  h1 : xs.length ≤ c.length
  h2 : c.take xs.length = xs.map U8
theorem hmc {i : TypeInfo} (k : Nat) (h : Tryd.prog.info? 5 = some i ∧ i.zero = some (.int .u8 0) ∧ i.size = 1 ∧ i.bytes = 1) (hk : (madeCells (Value.int .u8 0).cells (k * 1)).toList = (List.replicate k 0#8).map U8) : (madeCells (Value.int .u8 0).cells (k * i.size)).toList = (List.replicate k 0#8).map U8 := by
  rw [h.2.2.1]; exact hk
theorem hmk (k : Nat) (h : k ≤ 1000) : k * ti5.choose.size ≤ 16777216 ∧ ti5.choose.bytes * k ≤ 281474976710656 ∧ k ≤ 1000000 := by
  rw [ti5.choose_spec.2.2.1, ti5.choose_spec.2.2.2]; omega
theorem mc64 : (madeCells (Value.int .u8 0).cells (64 * 1)).toList = (List.replicate 64 0#8).map U8 := by kernel_rfl

end Xm
end Go.Proofs.YtlimfhjjadbjgaaDoor

namespace Go.Proofs.YtlimfhjjadbjgaaDoor
open Go.RowKit
set_option maxRecDepth 100000
set_option maxHeartbeats 1000000
namespace Xm
attribute [local simp] Sh.SHA_len B0_len F_len R_len Xk_len O_len Sh.MK_len D_len

theorem bk_at {w : World} {b : Nat} {c : List Value} {xs : List (BitVec 8)} (h : w.rangeAt b 0 c) (h2 : c.take xs.length = xs.map U8) : BytesAt w (some ⟨b, 0, none⟩) xs := BytesAt.range fun j v hv => h j v (by
  rw [← h2, List.getElem?_take] at hv
  split at hv
  · exact hv
  · cases hv)
def X16 (b l : List (BitVec 8)) (k : Nat) : List (BitVec 8) := if k = 0 then b else R b l 32
theorem X16_len {b l : List (BitVec 8)} (hb : b.length = 32) (k : Nat) : (X16 b l k).length = 32 := by
  unfold X16
  split
  · exact hb
  · rw [R_len]; exact hb
theorem app_ne {xs ys : List (BitVec 8)} (h : ys.length = 32) (e : xs ++ ys = []) : False := by
  have := congrArg List.length e
  rw [List.length_append, h, List.length_nil] at this
  omega
theorem take_two {c : List Value} {xs : List (BitVec 8)} {n : Nat} (h : c.take xs.length = xs.map U8) (hn : n ≤ xs.length) : c.take n = (xs.take n).map U8 := by
  have e := congrArg (List.take n) h
  rw [List.take_take, Nat.min_eq_left hn] at e
  rw [e, List.map_take]
attribute [local simp] X16_len
end Xm
end Go.Proofs.YtlimfhjjadbjgaaDoor

namespace Go.Proofs.YtlimfhjjadbjgaaDoor
open Go.RowKit
set_option maxRecDepth 100000
set_option maxHeartbeats 1000000

theorem ent7 : Enters Tryd.prog 7 := fun _ _ => by kernel_rfl
theorem ent12 : Enters Tryd.prog 12 := fun _ _ => by kernel_rfl
theorem ent6 : Enters Tryd.prog 6 := fun _ _ => by kernel_rfl
namespace Xm
attribute [local simp] Sh.SHA_len B0_len F_len R_len Xk_len O_len Sh.MK_len D_len

/-- What may not be. -/
def Bad (msg dst : List (BitVec 8)) (z : Int) : Prop := z < 0 ∨ 8160 < z ∨ 255 < dst.length ∨ 65536 < msg.length
/-- What is answered, and by which number. -/
structure RT (msg dst : List (BitVec 8)) (z : Int) (w : World) (v : Value) : Prop where
  bad : Bad msg dst z → v = .tuple #[.slice none 0 0, I 130]
  ok : ¬ Bad msg dst z → ∃ a cap, v = .tuple #[.slice a (E msg dst z.toNat).length cap, I 0] ∧ BytesAt w a (E msg dst z.toNat) ∧ (E msg dst z.toNat).length ≤ cap
/-- What the program's Expand is asked for. -/
def PXC : Prop := ∀ (a1 : Option Addr) (cap1 : Nat) (msg : List (BitVec 8)) (a2 : Option Addr) (cap2 : Nat) (dst : List (BitVec 8)) (z : Int) (w : World), msg.length ≤ 100000 → msg.length ≤ cap1 → dst.length ≤ 100000 → dst.length ≤ cap2 → Gt w → BytesAt w a1 msg → BytesAt w a2 dst → Calls Tryd.prog 7 [.slice a1 msg.length cap1, .slice a2 dst.length cap2, I z].toArray w (fun e w' => ∃ v, e = .returned v ∧ Grow w w' ∧ RT msg dst z w' v)
end Xm
end Go.Proofs.YtlimfhjjadbjgaaDoor
