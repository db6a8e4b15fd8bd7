/-
 What the rows share: a slice of slices of bytes that came in.
 The law PairingChecks returns true at every input, and the input reads behind the call as it read before; the listed variables (pharos/fp's inverting, modulus and lift, pharos/fr's modulus and lift) read as the program's own text lays them (the tied card).
-/
import Derived.Test.YtpnpiblphnpfiaaGreatDoorY0
import Derived.Test.YtpnpiblphnpfiaaGreatDoorTS
import Derived.ChangeArms
import Derived.SliceStrings
import Derived.Test.YtpnpiblphnpfiaaGreatDoorTU
import Derived.Test.YtpnpiblphnpfiaaGreatDoorCards
import Derived.Test.YtpnpiblphnpfiaaGreatDoorTie
import Derived.SevenTiedAt
set_option maxRecDepth 100000
set_option maxHeartbeats 1000000
namespace Go.Proofs.YtpnpiblphnpfiaaGreatDoor
section
open Go.ChangeShapes Go.WideShapes Go.ChangeAt Go.RowKit
theorem cB : Tryz.prog.cellsOf 22 = 1 := by kernel_rfl
theorem ls {W : World} {a : Option Addr} {len cap : Nat} {H : Type} {enc : TypeId × Value → H} {base : Nat} {spare : Nat → Bool} {held : Bool} {fuel : Nat} {x : DataW H × List MemPlace} (hf : DataW.trod enc Tryz.prog W base spare held fuel 74 (Value.slice a len cap).cells.toList = some x) : ∃ g : BSs, eX W a len g := by
 have each : ∀ i, i < len → ∃ g : Option Addr × Nat × List (BitVec 8), (∃ ad, a = some ad ∧ W.cell? (ad.add i) = some (.slice g.1 g.2.2.length g.2.1)) ∧ g.2.2.length ≤ g.2.1 ∧ BytesAt W g.1 g.2.2 := by
  rcases DataW.trod_slice Tryz.underlying74 hf with ⟨hcs, _⟩ | ⟨a', len', cap', elems, rest, n, _, hcs, _, _, hl, _, hlen, hel, _⟩
  ·simp [Value.cells] at hcs
   obtain ⟨rfl, rfl, rfl⟩ := hcs
   intro i hi
   omega
  ·simp [Value.cells] at hcs
   obtain ⟨rfl, rfl, rfl⟩ := hcs
   intro i hi
   have hE := hel i hi
   rw [cB, Nat.mul_one, List.getElem?_eq_getElem (by omega), Option.bind_eq_some_iff] at hE
   obtain ⟨c1, hc1, hy⟩ := hE
   rcases DataW.trod_slice Tryz.underlying22 hy with ⟨e1, _⟩ | ⟨b, l, c, _, _, _, _, e1, _⟩
   ·subst e1
    obtain ⟨h1, bs, h2, h3⟩ := nk (a := none) (len := 0) (cap := 0) hy
    exact ⟨(none, 0, bs), ⟨a', rfl, by rw [h2]; exact cell_of_cells?_one hc1⟩, by rw [h2]; exact h1, h3⟩
   ·subst e1
    obtain ⟨h1, bs, h2, h3⟩ := nk (a := some b) (len := l) (cap := c) hy
    exact ⟨(some b, c, bs), ⟨a', rfl, by rw [h2]; exact cell_of_cells?_one hc1⟩, by rw [h2]; exact h1, h3⟩
 exact ⟨fun i => if h : i < len then Classical.choose (each i h) else (none, 0, []), fun i hi => by
  dsimp only
  rw [dif_pos hi]
  exact Classical.choose_spec (each i hi)⟩
end
section
open Go.ChangeShapes Go.WideShapes Go.ChangeAt Go.RowKit
theorem gt (os : Os) (started : os.Started) (H : Type) (enc : TypeId × Value → H) :
  ReturnsInHanded {} Tryz.checked os 6 .any (fun w args => (Rows.pairingChecksSpec.pre enc Tryz.prog Tryz.f6 [] false w args ∧ laidMetH Tryz.prog ol w) ∧ sizedMet enc Tryz.prog Tryz.f6 (OpenSpec.ofChange Rows.pairingChecksSpec) false w args)
   (Rows.pairingChecksSpec.post enc Tryz.prog Tryz.f6 false true false false) := by
 refine returnsInHanded_of_change_and (C := Tryz.checked) (X := fun w _ => laidMetH Tryz.prog ol w) (fun _ _ _ hh h => h.of_heap hh) own started (by kernel_rfl) Tryz.func6
  (ChangeSpec.witness_shaped (enc := enc) (C := Tryz.checked) (os := os) (X := fun w _ => laidMetH Tryz.prog ol w) false (World.doorLaid Tryz.prog 400 os) #[.slice none 0 0, .slice none 0 0, .bool false] 8 rfl (World.shaped_of_RefB (by kernel_rfl) (by kernel_rfl)) (by kernel_rfl) (by kernel_rfl) (by kernel_rfl) (ts os _)) ?_
 intro W base args ds gs before hval0 hW _ _ hL _
 have hval : ∀ (j : Nat) t v, Tryz.f6.params[j]? = some t → args[j]? = some v → Value.okWide Tryz.prog W .any base t v := hval0
 have hW' := hW
 obtain ⟨p, q, hA0, hV, rfl, _, _⟩ := hW
 have hA : DataW.TrodAll enc Tryz.prog W 0 (fun _ => true) true Tryz.f6.params.toList args.toList ds p := hA0
 rw [Tryz.params6] at hA hval
 obtain ⟨v0, vs0, d0, ds0, p0, q0, hargs, rfl, rfl, h0, r0⟩ := trodAll_cons hA
 obtain ⟨v1, vs1, d1, ds1, p1, q1, rfl, rfl, rfl, h1, r1⟩ := trodAll_cons r0
 obtain ⟨v2, vs2, d2, ds2, p2, q2, rfl, rfl, rfl, h2, r2⟩ := trodAll_cons r1
 obtain ⟨rfl, rfl, rfl⟩ := trodAll_nil r2
 obtain rfl : args = #[v0, v1, v2] := by cases args; simp_all
 obtain ⟨rfl, rfl⟩ := trodVars_none hV
 have k0 := h0
 have lt0 : ∀ x ∈ p0, x.block < W.heap.size := by obtain ⟨m, hm⟩ := k0; exact DataW.trod_lt m _ _ _ hm
 obtain ⟨a0, len0, cap0, rfl⟩ := okWide_slice Tryz.underlying74 (hval 0 74 v0 rfl rfl)
 obtain ⟨g0, hg0⟩ : ∃ g : BSs, eX W a0 len0 g := by obtain ⟨m, hm⟩ := h0; exact ls hm
 have k1 := h1
 have lt1 : ∀ x ∈ p1, x.block < W.heap.size := by obtain ⟨m, hm⟩ := k1; exact DataW.trod_lt m _ _ _ hm
 obtain ⟨a1, len1, cap1, rfl⟩ := okWide_slice Tryz.underlying74 (hval 1 74 v1 rfl rfl)
 obtain ⟨g1, hg1⟩ : ∃ g : BSs, eX W a1 len1 g := by obtain ⟨m, hm⟩ := h1; exact ls hm
 have k2 := h2
 have lt2 : ∀ x ∈ p2, x.block < W.heap.size := by obtain ⟨m, hm⟩ := k2; exact DataW.trod_lt m _ _ _ hm
 obtain ⟨b2, rfl, _, _⟩ := open_bool Tryz.underlying4 (hval 2 4 v2 rfl rfl) h2
 clear hA0 hval0
 refine (Q6.pz a0 len0 cap0 a1 len1 cap1 b2 g0 g1 W (po hL) hg0 hg1).mono fun e W' ⟨he, bel⟩ => ?_
 subst he
 exact ⟨_, rfl, _, _, _, [], _, [], hW', trodAll_mk1 (shut_bool Tryz.underlying4 _), (trodAll_cons_mk (Below.trod mU (by kernel_rfl) (of_decide_eq_true (by kernel_rfl)) k0 bel lt0) (trodAll_cons_mk (Below.trod mU (by kernel_rfl) (of_decide_eq_true (by kernel_rfl)) k1 bel lt1) (trodAll_cons_mk (Below.trod mU (by kernel_rfl) (of_decide_eq_true (by kernel_rfl)) k2 bel lt2) trodAll_mk0))), rfl, bel.frame _, fun h => by cases h⟩
theorem gO : Rows.PairingChecksSaid :=
 OpenClaim.holds_of_wide 6 Tryz.f6 rfl rfl rfl rfl rfl rfl rfl ⟨rfl, rfl, rfl, rfl, rfl⟩ rfl rfl rfl rfl rfl (by kernel_rfl) Tryz.func6 (by kernel_rfl)
  (of_decide_eq_true (by kernel_rfl)) (by unfold Func.isWrapper; first | (rw [if_pos (by decide +kernel)]; kernel_rfl) | (rw [if_neg (by decide +kernel)]; exact ⟨rfl, rfl⟩))
  (fun os started H enc _ => gt os started H enc)
theorem pairingChecks_card : Rows.PairingChecksCardSaid :=
 Claim7.holds_tied_plain_at .later [] [.data, .data, .data, .data, .data] true (true, "e65fe1d826ab8effba31d3363711c473cb67dfa7220b543af10da4b062e07cba") false
  gO (fun _ h => by cases h) (by kernel_rfl) (fun _ h => by cases h) pairingChecks_row_tie rfl ⟨rfl, rfl⟩ (by kernel_rfl) rfl
  (fun f fn hf hfn => by
   obtain rfl : f = 6 := Option.some.inj ((show Tryz.prog.funcNamed "pharos/pharoslaw12.PairingChecks" = some 6 by kernel_rfl).symm.trans hf) |>.symm
   obtain rfl : fn = Tryz.f6 := (Option.some.inj (Tryz.func6.symm.trans hfn)).symm
   exact ⟨by kernel_rfl, fun j t ht => by
    rw [Tryz.params6] at ht
    have h3 : t = 74 ∨ t = 4 := by
     match j, ht with
     | 0, ht => simp at ht; first | exact ht.symm | exact .inl ht.symm | exact .inr ht.symm | exact .inr (.inl ht.symm) | exact .inr (.inr ht.symm)
     | 1, ht => simp at ht; first | exact ht.symm | exact .inl ht.symm | exact .inr ht.symm | exact .inr (.inl ht.symm) | exact .inr (.inr ht.symm)
     | 2, ht => simp at ht; first | exact ht.symm | exact .inl ht.symm | exact .inr ht.symm | exact .inr (.inl ht.symm) | exact .inr (.inr ht.symm)
     | _ + 3, ht => simp at ht
    rcases h3 with rfl | rfl
    ·exact (show Tryz.prog.wantsStandIn 74 = false by kernel_rfl)
    ·exact (show Tryz.prog.wantsStandIn 4 = false by kernel_rfl)⟩)
  (by kernel_rfl)
end
end Go.Proofs.YtpnpiblphnpfiaaGreatDoor
