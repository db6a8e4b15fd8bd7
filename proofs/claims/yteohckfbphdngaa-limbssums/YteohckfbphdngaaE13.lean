/-
  The engine, part 13: blocks of a caller's that a call turns; slices by unsigned bounds.
-/
import Derived.Test.YteohckfbphdngaaE12
namespace Go.Proofs.Yteohckfbphdngaa
open Go.RowKit

/-- The call has turned block b alone of what was there. -/
structure Mod (b : Nat) (w w' : World) : Prop where
  os : w'.os = w.os
  tape : w'.tape = w.tape
  output : w'.output = w.output
  size : w.heap.size ≤ w'.heap.size
  other : ∀ k, k < w.heap.size → k ≠ b → w'.heap[k]? = w.heap[k]?
theorem Hq.mod {B : Bs} {L : Hl} {Y : Nat → Prop} {w w' : World} (h : Hq B L Y w) (hr : Rides B.J) {n b : Nat} {c : List Value} {t : TypeId} (hl : lkB L n = some (b, c, t)) (hm : Mod b w w') {c' : List Value} (ho : OwnB w' b c' t) : Hq B ((n, b, c', t) :: L) Y w' := by
  have hlt := (h.own n b c t hl).1.lt
  obtain ⟨fz, h1, h2⟩ := ho
  have hp : (w.putObj b (.cells c'.toArray t fz)).heap[b]? = some (.cells c'.toArray t fz) := World.putObj_heap_same hlt
  have ht := h.turn hr hl c' (turn_putObj w b (.cells c'.toArray t fz)) ⟨fz, hp, h2⟩
  refine ht.grow hr ⟨hm.os, hm.tape, hm.output, by simpa using hm.size, fun k hk => ?_⟩
  by_cases e : k = b
  · subst e; exact h1.trans hp.symm
  · rw [World.putObj_heap_other e]
    exact hm.other k (by simpa using hk) e
theorem hp_one {w : World} {n b : Nat} {c : List Value} {t : TypeId} (h : OwnB w b c t) : Hp (plM w (fun k => k = b)) [(n, b, c, t)] w :=
  ⟨rfl, rfl, rfl, Nat.le_refl _, fun _ _ _ => rfl, fun m b' c' t' hl => (by
      rcases lkB_cons hl with ⟨_, e⟩ | ⟨_, hl⟩
      · cases e; exact ⟨h, .inr rfl⟩
      · cases hl),
   fun m k b' c1 t1 c2 t2 h1 h2 => (by
      rcases lkB_cons h1 with ⟨e1, _⟩ | ⟨_, h1⟩
      · rcases lkB_cons h2 with ⟨e2, _⟩ | ⟨_, h2⟩
        · exact e1.trans e2.symm
        · cases h2
      · cases h1), fun _ h => h.elim, fun _ h => h.elim, fun _ h => h.elim, trivial⟩
theorem hp_mod {w w' : World} {b : Nat} {L : Hl} {Y : Nat → Prop} (h : Hq (plM w (fun k => k = b)) L Y w') : Mod b w w' := ⟨h.os, h.tape, h.output, h.size, fun k hk hne => h.keep k hk hne⟩
theorem bytes_mod {w w' : World} {b : Nat} {a : Option Addr} {xs : List (BitVec 8)} (h : BytesAt w a xs) (hm : Mod b w w') (ha : ∀ ad, a = some ad → ad.block ≠ b) : BytesAt w' a xs :=
  h.of_same fun ad v hc ho => by
    have hne : ad.block ≠ b := by
      rcases ho with rfl | ⟨x, rfl, e⟩
      · exact ha ad rfl
      · exact e ▸ ha x rfl
    rw [World.cell?_of_block (w := w) (hm.other ad.block (block_lt_of_cell hc) hne)]
    exact hc
theorem block_add (ad : Addr) (k : Nat) : (ad.add k).block = ad.block := by unfold Addr.add; split <;> rfl

section
variable {P : Program} {G : Cls} {ro : Option Nat} {ops : Array Oper} {N : Nat} {ds : List Deferred} {fs : List Nat} {Z : Fr → Cls → Prop} {F : Fr} {C : Cls} {rest : List Oper}
variable {d : Nat} {ty : TypeId} {pos : String} {af : Array Edge} {gd : Option (Nat × Bool)} {B : Bs} {L : Hl}
/-- x[u:] of an array, u unsigned. -/
theorem lx_sllo {t e : TypeId} {n : Nat} {x z : Operand} {b o : Nat} {u : BitVec 64} (hx : evF F x = some (.pointer (some ⟨b, o, none⟩))) (hu : P.underlying t = some (.array n e)) (hs : ∀ w, (sizeOf e).run P w = .ok 1 w)
    (hz : evF F z = some (U64 u)) (hb : u.toNat < n) (hw : wantF ops F ⟨some d, .slice t x (some z) none none, ty, pos, af, gd⟩ = some true) (hd : Nat.blt d N = true)
    (h : Lx P G ro ops N ds (EE fs) Z rest ((d, .slice (some ⟨b, o + u.toNat, none⟩) (n - u.toNat) (n - u.toNat)) :: F) C) : Lx P G ro ops N ds (EE fs) Z (⟨some d, .slice t x (some z) none none, ty, pos, af, gd⟩ :: rest) F C :=
  lx_val (v := .slice (some ⟨b, o + u.toNat, none⟩) (n - u.toNat) (n - u.toNat)) rfl hw hd (fun _ h => by cases h) (fun a w ha _ => by
    have hz := ha.ev hz
    have h1 : u.toNat ≤ n := by omega
    have h2 : ¬ n = u.toNat := by omega
    simp only [execOp, ha.ev hx]
    simp [Instr.sliceAt, run_underlying hu, Instr.sureAddr, Instr.sliceBounds, Instr.sliceBound, asIntOf, U64, hz, hs, h1, h2, Addr.add_mid]) h
/-- x[:u] of an array, u unsigned. -/
theorem lx_slhi {t e : TypeId} {n : Nat} {x z : Operand} {b o : Nat} {u : BitVec 64} (hx : evF F x = some (.pointer (some ⟨b, o, none⟩))) (hu : P.underlying t = some (.array n e)) (hs : ∀ w, (sizeOf e).run P w = .ok 1 w)
    (hz : evF F z = some (U64 u)) (hb : u.toNat < n) (hw : wantF ops F ⟨some d, .slice t x none (some z) none, ty, pos, af, gd⟩ = some true) (hd : Nat.blt d N = true)
    (h : Lx P G ro ops N ds (EE fs) Z rest ((d, .slice (some ⟨b, o, none⟩) u.toNat n) :: F) C) : Lx P G ro ops N ds (EE fs) Z (⟨some d, .slice t x none (some z) none, ty, pos, af, gd⟩ :: rest) F C :=
  lx_val (v := .slice (some ⟨b, o, none⟩) u.toNat n) rfl hw hd (fun _ h => by cases h) (fun a w ha _ => by
    have hz := ha.ev hz
    have h1 : u.toNat ≤ n := by omega
    simp only [execOp, ha.ev hx]
    simp [Instr.sliceAt, run_underlying hu, Instr.sureAddr, Instr.sliceBounds, Instr.sliceBound, asIntOf, U64, hz, hs, h1, Addr.add_mid]) h
/-- A field's place, told. -/
theorem lx_fak (k : Nat) {t : TypeId} {fields : Array Field} {f : Nat} {fd : Field} {sz : Nat} {x : Operand} {b o : Nat} (hx : evF F x = some (.pointer (some ⟨b, o, none⟩))) (hu : P.underlying t = some (.struct fields)) (hf : fields[f]? = some fd)
    (hs : ∀ w, (sizeOf fd.type).run P w = .ok sz w) (hz : sz ≠ 0) (hk : o + fd.offset = k) (hw : wantF ops F ⟨some d, .fieldAddr t x f, ty, pos, af, gd⟩ = some true) (hd : Nat.blt d N = true)
    (h : Lx P G ro ops N ds (EE fs) Z rest ((d, .pointer (some ⟨b, k, none⟩)) :: F) C) : Lx P G ro ops N ds (EE fs) Z (⟨some d, .fieldAddr t x f, ty, pos, af, gd⟩ :: rest) F C :=
  lx_fa hx hu hf hs hz hw hd (by rw [hk]; exact h)
/-- A part of a block read. -/
theorem lx_loadp (n : Nat) {t et : TypeId} {x : Operand} {b o m : Nat} {c cs : List Value} (hx : evF F x = some (.pointer (some ⟨b, o, none⟩))) (hl : lkB L n = some (b, c, et)) (hag : ∀ w, (isAgg t).run P w = .ok true w) (hs : ∀ w, (sizeOf t).run P w = .ok m w) (hm : cs.length = m)
    (hc : ∀ j v, cs[j]? = some v → c[o + j]? = some v) (hw : wantF ops F ⟨some d, .load t x, ty, pos, af, gd⟩ = some true) (hd : Nat.blt d N = true)
    (h : Lx P G ro ops N ds (EE fs) Z rest ((d, .agg cs.toArray) :: F) (Hp B L)) : Lx P G ro ops N ds (EE fs) Z (⟨some d, .load t x, ty, pos, af, gd⟩ :: rest) F (Hp B L) :=
  lx_loadr hx hag hs hm (hp_range (n := n) hl hc) hw hd h
end
section
variable {K : KK} {ds : List Deferred} {F : Fr}
theorem kseq_x {Z : List Deferred → Fr → Cls → Prop} {C : Cls} {i : Nat} (h : K (.exit i) ds F C) : Kseq Z K (.exit i) ds F C := h
theorem kblk_x {id : Nat} {C : Cls} (h : K .normal ds F C) : Kblk id K (.exit id) ds F C := by
  show (bif Nat.beq id id then K .normal else K (.exit id)) ds F C
  rw [Nat.beq_refl]; exact h
end
end Go.Proofs.Yteohckfbphdngaa
