/-
  Bytes as a string; strings held against one another.
-/
import Derived.Test.YteohckfbphdngaaE16
import Derived.Laws.BytesString
import Derived.Laws.Strings
namespace Go.Proofs.Yteohckfbphdngaa
open Go.RowKit
def strB (xs : List (BitVec 8)) : ByteArray := (xs.map fun b => (b.toNat : Int)).foldl (fun r n => r.push (UInt8.ofNat n.toNat)) ByteArray.empty
section
variable {P : Program}
theorem conv_str {src dst e : TypeId} (hs : P.underlying src = some (.slice e)) (he : P.underlying e = some (.int .u8)) (hd : P.underlying dst = some .string) {w : World} {a : Option Addr} {xs : List (BitVec 8)} (h : BytesAt w a xs) (len cap : Nat) (hl : xs.length = len) :
    (convert src dst (.slice a len cap)).run P w = .ok (.string (strB xs)) w := by
  subst hl
  rw [run_convert_bytes_string w src dst e a _ cap hs he hd]
  cases a with
  | none =>
    have h0 : xs = [] := by
      cases xs with
      | nil => rfl
      | cons x r => obtain ⟨ad, e, _⟩ := h 0 (U8 x) rfl; cases e
    subst h0
    simp only [Conv.bytesToString, Sem.run_pure]
    rfl
  | some ad =>
    have hc := run_loadCells_list (P := P) w ad (xs.map U8) (fun j v hv => by obtain ⟨ad', e, hc⟩ := h j v hv; cases e; exact hc)
    rw [List.length_map] at hc
    exact run_bytesToString w ad _ cap (xs.map fun b => (b.toNat : Int)) (by rw [hc, List.map_map]; rfl)
theorem bin_eq_str (t : TypeId) (s : ByteArray) (w : World) : (binOp .eql t (.string s) (.string s)).run P w = .ok (.bool true) w := by
  rw [binOp_string_eql]; simp
end
end Go.Proofs.Yteohckfbphdngaa
