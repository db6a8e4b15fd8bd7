/-
  The document's roots of keys' lists, of committees.
-/
import Derived.Test.YtldnceanfncdfaaDoorWC
import Derived.Test.YtldnceanfncdfaaDoorX3
namespace Go.Proofs.YtldnceanfncdfaaDoor
open Go.RowKit
set_option maxRecDepth 100000
set_option maxHeartbeats 1000000
open Sh
theorem zvK (w : World) : (zeroValue 29).run Tryd.prog w = .ok (.agg (Z48.map U8).toArray) w := (Tryd.zeroValue29 w).trans (by rfl)
/-- A list of roots that grows beside the maker's place and the answer's. -/
structure KI (w0 w : World) (bm b3 b6 : Nat) (a : Option Addr) (cap n : Nat) (f : Nat → By) : Prop where
  ap : ApR w0 w a cap n f
  o3 : OwnB w b3 [.pointer (some ⟨bm, 0, none⟩)] 47
  o6 : OwnB w b6 (Z0.map U8) 23
  nb : ∀ k, Of a k → ¬ k = b3 ∧ ¬ k = b6
theorem KI.next {w0 w w1 w2 : World} {bm b3 b6 : Nat} {a a1 : Option Addr} {cap cap1 n : Nat} {f : Nat → By} (h : KI w0 w bm b3 b6 a cap n f) (hf : (f n).length = 32) (hg : Grow w w1) (g2 : Gt w2) (hm : MM (Of a) w1 w2) (hs : SlW 23 32 w2 a1 cap1 (n + 1) ((RW 32 f n).map U8 ++ (f n).map U8)) (ho : ∀ k, Of a1 k → Of a k ∨ w1.heap.size ≤ k) : KI w0 w2 bm b3 b6 a1 cap1 (n + 1) f where
  ap := h.ap.next hf hg g2 hm hs ho
  o3 := hm.own (h.o3.grow hg) (fun hk => (h.nb _ hk).1 rfl)
  o6 := hm.own (h.o6.grow hg) (fun hk => (h.nb _ hk).2 rfl)
  nb := fun k hk => by
    rcases ho k hk with h1 | h1
    · exact h.nb k h1
    · have h2 := (h.o3.grow hg).lt
      have h3 := (h.o6.grow hg).lt
      exact ⟨by omega, by omega⟩
theorem krs_flat (ks : List By) (n : Nat) : RW 32 (fun i => BR8 (ks.getD i Z48)) n = (krs ks n).flatten := by
  rw [← RW_list _ (krs_all ks n), krs_len]
  refine RW_fun fun i hi => ?_
  have e : (krs ks n)[i]? = some (BR8 (ks.getD i Z48)) := by rw [krs, List.getElem?_map, List.getElem?_range hi]; rfl
  show BR8 (ks.getD i Z48) = ((krs ks n)[i]?).getD []
  rw [e]
  rfl
end Go.Proofs.YtldnceanfncdfaaDoor
