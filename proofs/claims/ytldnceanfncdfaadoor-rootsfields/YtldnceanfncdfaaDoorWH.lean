/-
  The laws of all containers' roots, and of their parts.
-/
import Derived.Test.YtldnceanfncdfaaDoorWG
namespace Go.Proofs.YtldnceanfncdfaaDoor
open Go.RowKit
set_option maxRecDepth 100000
set_option maxHeartbeats 1000000
open Sh
theorem rowN {w : World} {n b lo : Nat} {c : List Value} {t : TypeId} (h1 : lo ≤ b) (h2 : OwnB w b c t) : ∀ n' b' c' t', lkB [(n, b, c, t)] n' = some (b', c', t') → lo ≤ b' ∧ OwnB w b' c' t' := fun n' b' c' t' hl => by
  rcases lkB_cons hl with ⟨_, e⟩ | ⟨_, hl⟩
  · cases e; exact ⟨h1, h2⟩
  · cases hl
theorem Up.all {u : Up} : ∀ j v, u.cs[j]? = some v → u.cs[0 + j]? = some v := fun j v hv => by rw [Nat.zero_add]; exact hv
theorem Bo.all {b : Bo} : ∀ j v, b.cs[j]? = some v → b.cs[0 + j]? = some v := fun j v hv => by rw [Nat.zero_add]; exact hv
theorem Ag.all {a : Ag} : ∀ j v, a.cs[j]? = some v → a.cs[0 + j]? = some v := fun j v hv => by rw [Nat.zero_add]; exact hv
def Up.bits (u : Up) (L : List Bool) (a : Option Addr) (c : Nat) : Up := ⟨u.at_, u.nx, u.br, u.fi, u.fy, ⟨L, a, c, u.sy.sig⟩, u.sl⟩
end Go.Proofs.YtldnceanfncdfaaDoor
