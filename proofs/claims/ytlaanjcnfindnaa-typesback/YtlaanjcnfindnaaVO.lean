/-
  The laws of sizes and of encoding.
-/
import Derived.Test.YtlaanjcnfindnaaVN
namespace Go.Proofs.Ytlaanjcnfindnaa
open Go.RowKit
set_option maxRecDepth 100000
set_option maxHeartbeats 1000000

def Kn : Prop := ∀ (w : World), Gt w → Calls Try.prog 9 [].toArray w (fun e w' => e = .returned (.bool true) ∧ Grow w w')
theorem row1 {n b : Nat} {c : List Value} {t : TypeId} {w w' : World} (h1 : w.heap.size ≤ b) (h2 : OwnB w' b c t) : ∀ n' b' c' t', lkB [(n, b, c, t)] n' = some (b', c', t') → w.heap.size ≤ b' ∧ OwnB w' b' c' t' := fun n' b' c' t' hl => by
  rcases lkB_cons hl with ⟨_, e⟩ | ⟨_, hl⟩
  · cases e; exact ⟨h1, h2⟩
  · cases hl
theorem inj_one {n : Nat} {b1 : Nat} {c1 : List Value} {t1 : TypeId} : ∀ i j b c t c' t', lkB [(n, b1, c1, t1)] i = some (b, c, t) → lkB [(n, b1, c1, t1)] j = some (b, c', t') → i = j := by
  intro i j b c t c' t' h1 h2
  rcases lkB_cons h1 with ⟨e1, _⟩ | ⟨_, h1⟩
  · rcases lkB_cons h2 with ⟨e2, _⟩ | ⟨_, h2⟩
    · exact e1.trans e2.symm
    · cases h2
  · cases h1
theorem slv_some {w : World} {a : Option Addr} {cap : Nat} {xs : By} (h : SlV 5 w a cap (xs.map U8)) (h0 : xs ≠ []) : ∃ b c, a = some ⟨b, 0, none⟩ ∧ OwnB w b c 5 ∧ c.length = cap ∧ c.take xs.length = xs.map U8 := by
  rcases h with ⟨_, h, _⟩ | ⟨b, c, h1, h2, h3, _, h5⟩
  · exact absurd (List.map_eq_nil_iff.1 h) h0
  · exact ⟨b, c, h1, h2, h3, by simpa using h5⟩
theorem row_by {B : Bs} {L : Hl} {Y : Nat → Prop} {n b : Nat} {t : TypeId} {xs : By} {c : List Value} (hl : lkB L n = some (b, c, t)) (hc : c.take xs.length = xs.map U8) : ∀ w, Hq B L Y w → BytesAt w (some ⟨b, 0, none⟩) xs := fun w hw j v hv => by
  have hr := hp_row (n := n) hl w hw
  refine ⟨_, rfl, ?_⟩
  have hj : j < xs.length := by have := (List.getElem?_eq_some_iff.1 hv).1; simpa using this
  have h2 : c[j]? = some v := by rw [← hv, ← hc, List.getElem?_take, if_pos hj]
  rw [Addr.add_mid]
  exact hr j v h2
theorem Hd.by_ne (h : Hd) (r : By) : h.by ++ r ≠ [] := fun e => by
  have := congrArg List.length e
  simp [Hd.by, le8_len] at this
end Go.Proofs.Ytlaanjcnfindnaa
