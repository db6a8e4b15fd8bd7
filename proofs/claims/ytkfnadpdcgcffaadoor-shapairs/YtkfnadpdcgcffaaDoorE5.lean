/-
  The engine, part 5: the steps of a walk.
-/
import Derived.Test.YtkfnadpdcgcffaaDoorE4
namespace Go.Proofs.YtkfnadpdcgcffaaDoor
open Go.RowKit

/-- Which operations may turn memory; 'fs': functions whose calls are taken so too. -/
def EE (fs : List Nat) (o : Oper) : Bool :=
  match o.op with
  | .move _ | .assign _ | .pick .. | .build .. | .load .. | .nilCheck _ | .binOp .. | .unOp .. | .makeFunc .. | .slice .. | .fieldAddr .. | .field .. | .indexAddr .. | .index .. | .extract .. => false
  | .call { callee := .builtin .len, .. } | .call { callee := .builtin .cap, .. } | .call { callee := .builtin .min, .. } | .call { callee := .builtin .max, .. } => false
  | .call { callee := .value (.func f), .. } => fs.any (Nat.beq f)
  | .convert _ t _ => fs.any (Nat.beq (1000000 + t))
  | _ => true

def evL (F : Fr) : List Operand → Option (List Value)
  | [] => some []
  | x :: r => match evF F x, evL F r with
    | some v, some vs => some (v :: vs)
    | _, _ => none
theorem Has.evL {N : Nat} {ds : List Deferred} {F : Fr} {a : Act} (h : Has N ds F a) : ∀ {l : List Operand} {vs : List Value}, evL F l = some vs → l.map a.eval = vs
  | [], _, hv => by simp [YtkfnadpdcgcffaaDoor.evL] at hv; simp [← hv]
  | x :: r, vs, hv => by
    unfold YtkfnadpdcgcffaaDoor.evL at hv
    split at hv
    · rename_i v us h1 h2
      cases hv
      simp [h.ev h1, h.evL h2]
    · cases hv

section
variable {P : Program} {G : Cls} {ro : Option Nat} {ops : Array Oper} {N : Nat} {ds : List Deferred} {fs : List Nat} {Z : Fr → Cls → Prop} {F : Fr} {C : Cls} {rest : List Oper}
variable {d : Nat} {ty : TypeId} {pos : String} {af : Array Edge} {gd : Option (Nat × Bool)}

theorem lx_nil {E : Oper → Bool} (h : Z F C) : Lx P G ro ops N ds E Z [] F C := h
theorem lx_val {E : Oper → Bool} {o : Oper} {v : Value} (hE : E o = false) (hw : wantF ops F o = some true) (hd : fitsD N o.dst = true) (hnd : ∀ c, o.op ≠ .defer c)
    (hv : ∀ a w, Has N ds F a → clsOf G o C w → (execOp a.eval o).run P w = .ok (.value v) w) (h : Lx P G ro ops N ds E Z rest (putF o.dst v F) C) : Lx P G ro ops N ds E Z (o :: rest) F C := by
  unfold Lx
  rw [hE]
  refine ⟨v, ⟨hd, fun a ha => .inl ⟨ha.want hw, fun w hC => .inl ?_⟩⟩, h⟩
  rw [Oper.semAt_eq _ _ _ hnd]
  exact hv a w ha hC
theorem lx_skip {E : Oper → Bool} {o : Oper} (hE : E o = false) (hw : wantF ops F o = some false) (hd : fitsD N o.dst = true) (h : Lx P G ro ops N ds E Z rest (putF o.dst undef F) C) : Lx P G ro ops N ds E Z (o :: rest) F C := by
  unfold Lx
  rw [hE]
  exact ⟨undef, ⟨hd, fun a ha => .inr ⟨ha.want hw, rfl⟩⟩, h⟩
theorem lx_callv {E : Oper → Bool} {o : Oper} {v : Value} (hE : E o = false) (hw : wantF ops F o = some true) (hd : fitsD N o.dst = true) (hnd : ∀ c, o.op ≠ .defer c)
    (hv : ∀ a w, Has N ds F a → clsOf G o C w → ∃ f args, (execOp a.eval o).run P w = .ok (.enter f args) w ∧ CallsIn (FW ro) 0 P f args w (fun e w' => e = .returned v ∧ Grow w w'))
    (h : Lx P G ro ops N ds E Z rest (putF o.dst v F) C) : Lx P G ro ops N ds E Z (o :: rest) F C := by
  unfold Lx
  rw [hE]
  refine ⟨v, ⟨hd, fun a ha => .inl ⟨ha.want hw, fun w hC => .inr ?_⟩⟩, h⟩
  rw [Oper.semAt_eq _ _ _ hnd]
  exact hv a w ha hC

theorem lx_move {x : Operand} {v : Value} (hx : evF F x = some v) (hw : wantF ops F ⟨some d, .move x, ty, pos, af, gd⟩ = some true) (hd : Nat.blt d N = true)
    (h : Lx P G ro ops N ds (EE fs) Z rest ((d, v) :: F) C) : Lx P G ro ops N ds (EE fs) Z (⟨some d, .move x, ty, pos, af, gd⟩ :: rest) F C :=
  lx_val (v := v) rfl hw hd (fun _ h => by cases h) (fun a w ha _ => by simp only [execOp, ha.ev hx]; rfl) h
theorem lx_assign {x : Operand} {v : Value} (hx : evF F x = some v) (hw : wantF ops F ⟨some d, .assign x, ty, pos, af, gd⟩ = some true) (hd : Nat.blt d N = true)
    (h : Lx P G ro ops N ds (EE fs) Z rest ((d, v) :: F) C) : Lx P G ro ops N ds (EE fs) Z (⟨some d, .assign x, ty, pos, af, gd⟩ :: rest) F C :=
  lx_val (v := v) rfl hw hd (fun _ h => by cases h) (fun a w ha _ => by simp only [execOp, ha.ev hx]; rfl) h
theorem lx_bin {op : BinOp} {t yt : TypeId} {x y : Operand} {vx vy v : Value} (hx : evF F x = some vx) (hy : evF F y = some vy) (hg : ∀ w, (eqGuard op t x y vx vy).run P w = .ok () w)
    (hr : ∀ w, (binOp op t vx vy).run P w = .ok v w) (hw : wantF ops F ⟨some d, .binOp op t x y yt, ty, pos, af, gd⟩ = some true) (hd : Nat.blt d N = true)
    (h : Lx P G ro ops N ds (EE fs) Z rest ((d, v) :: F) C) : Lx P G ro ops N ds (EE fs) Z (⟨some d, .binOp op t x y yt, ty, pos, af, gd⟩ :: rest) F C :=
  lx_val (v := v) rfl hw hd (fun _ h => by cases h) (fun a w ha _ => by simp only [execOp, ha.ev hx, ha.ev hy, Sem.run_bind, hg, hr, Result.andThen_ok]; rfl) h
theorem lx_un {op : UnOp} {t : TypeId} {x : Operand} {vx v : Value} (hx : evF F x = some vx) (hr : ∀ w, (Op.unary op vx).run P w = .ok v w) (hw : wantF ops F ⟨some d, .unOp op t x, ty, pos, af, gd⟩ = some true) (hd : Nat.blt d N = true)
    (h : Lx P G ro ops N ds (EE fs) Z rest ((d, v) :: F) C) : Lx P G ro ops N ds (EE fs) Z (⟨some d, .unOp op t x, ty, pos, af, gd⟩ :: rest) F C :=
  lx_val (v := v) rfl hw hd (fun _ h => by cases h) (fun a w ha _ => by simp only [execOp, ha.ev hx, Sem.run_bind, hr, Result.andThen_ok]; rfl) h
theorem lx_conv {s t : TypeId} {x : Operand} {vx v : Value} (hf : fs.any (Nat.beq (1000000 + t)) = false) (hx : evF F x = some vx) (hr : ∀ w, (convert s t vx).run P w = .ok v w) (hw : wantF ops F ⟨some d, .convert s t x, ty, pos, af, gd⟩ = some true) (hd : Nat.blt d N = true)
    (h : Lx P G ro ops N ds (EE fs) Z rest ((d, v) :: F) C) : Lx P G ro ops N ds (EE fs) Z (⟨some d, .convert s t x, ty, pos, af, gd⟩ :: rest) F C :=
  lx_val (v := v) hf hw hd (fun _ h => by cases h) (fun a w ha _ => by simp only [execOp, ha.ev hx, Sem.run_bind, hr, Result.andThen_ok]; rfl) h
/-- A conversion that reads memory. -/
theorem lx_convr {s t : TypeId} {x : Operand} {vx v : Value} (hf : fs.any (Nat.beq (1000000 + t)) = false) (hx : evF F x = some vx) (hr : ∀ w, C w → (convert s t vx).run P w = .ok v w) (hw : wantF ops F ⟨some d, .convert s t x, ty, pos, af, gd⟩ = some true) (hd : Nat.blt d N = true)
    (h : Lx P G ro ops N ds (EE fs) Z rest ((d, v) :: F) C) : Lx P G ro ops N ds (EE fs) Z (⟨some d, .convert s t x, ty, pos, af, gd⟩ :: rest) F C :=
  lx_val (v := v) hf hw hd (fun _ h => by cases h) (fun a w ha hC => by simp only [execOp, ha.ev hx, Sem.run_bind, hr w hC.1, Result.andThen_ok]; rfl) h
theorem lx_nilc {x : Operand} {a0 : Addr} (hx : evF F x = some (.pointer (some a0))) (hw : wantF ops F ⟨some d, .nilCheck x, ty, pos, af, gd⟩ = some true) (hd : Nat.blt d N = true)
    (h : Lx P G ro ops N ds (EE fs) Z rest ((d, .pointer (some a0)) :: F) C) : Lx P G ro ops N ds (EE fs) Z (⟨some d, .nilCheck x, ty, pos, af, gd⟩ :: rest) F C :=
  lx_val (v := .pointer (some a0)) rfl hw hd (fun _ h => by cases h) (fun a w ha _ => by simp only [execOp, ha.ev hx]; rfl) h
theorem lx_nilf {x : Operand} {f : Nat} {cap : Array Value} (hx : evF F x = some (.func (.func f) #[] cap)) (hw : wantF ops F ⟨some d, .nilCheck x, ty, pos, af, gd⟩ = some true) (hd : Nat.blt d N = true)
    (h : Lx P G ro ops N ds (EE fs) Z rest ((d, .func (.func f) #[] cap) :: F) C) : Lx P G ro ops N ds (EE fs) Z (⟨some d, .nilCheck x, ty, pos, af, gd⟩ :: rest) F C :=
  lx_val (v := .func (.func f) #[] cap) rfl hw hd (fun _ h => by cases h) (fun a w ha _ => by simp only [execOp, ha.ev hx]; rfl) h
theorem lx_pick {c x y : Operand} {b : Bool} {vx vy : Value} (hc : evF F c = some (.bool b)) (hx : evF F x = some vx) (hy : evF F y = some vy) (hw : wantF ops F ⟨some d, .pick c x y, ty, pos, af, gd⟩ = some true) (hd : Nat.blt d N = true)
    (h : Lx P G ro ops N ds (EE fs) Z rest ((d, if b then vx else vy) :: F) C) : Lx P G ro ops N ds (EE fs) Z (⟨some d, .pick c x y, ty, pos, af, gd⟩ :: rest) F C :=
  lx_val (v := if b then vx else vy) rfl hw hd (fun _ h => by cases h) (fun a w ha _ => by simp only [execOp, ha.ev hx, ha.ev hy, ha.ev hc]; rfl) h
theorem lx_func {fn : Fn} {first cap : List Operand} {vf vc : List Value} (hf : evL F first = some vf) (hc : evL F cap = some vc) (hw : wantF ops F ⟨some d, .makeFunc fn first.toArray cap.toArray, ty, pos, af, gd⟩ = some true) (hd : Nat.blt d N = true)
    (h : Lx P G ro ops N ds (EE fs) Z rest ((d, .func fn vf.toArray vc.toArray) :: F) C) : Lx P G ro ops N ds (EE fs) Z (⟨some d, .makeFunc fn first.toArray cap.toArray, ty, pos, af, gd⟩ :: rest) F C :=
  lx_val (v := .func fn vf.toArray vc.toArray) rfl hw hd (fun _ h => by cases h) (fun a w ha _ => by simp only [execOp, List.map_toArray, ha.evL hf, ha.evL hc]; rfl) h
theorem lx_ext {x : Operand} {i : Nat} {vs : Array Value} {v : Value} (hx : evF F x = some (.tuple vs)) (hv : vs[i]? = some v) (hw : wantF ops F ⟨some d, .extract x i, ty, pos, af, gd⟩ = some true) (hd : Nat.blt d N = true)
    (h : Lx P G ro ops N ds (EE fs) Z rest ((d, v) :: F) C) : Lx P G ro ops N ds (EE fs) Z (⟨some d, .extract x i, ty, pos, af, gd⟩ :: rest) F C :=
  lx_val (v := v) rfl hw hd (fun _ h => by cases h) (fun a w ha _ => by simp only [execOp, ha.ev hx, Instr.extract, hv]; rfl) h

/-- An element's place in an array. -/
theorem lx_ia {t e : TypeId} {len sz : Nat} {x ix : Operand} {b o : Nat} {i : Int} (hx : evF F x = some (.pointer (some ⟨b, o, none⟩))) (hi : evF F ix = some (I i)) (hu : P.underlying t = some (.array len e))
    (hs : ∀ w, (sizeOf e).run P w = .ok sz w) (hb : 0 ≤ i ∧ i < len) (hw : wantF ops F ⟨some d, .indexAddr t x ix, ty, pos, af, gd⟩ = some true) (hd : Nat.blt d N = true)
    (h : Lx P G ro ops N ds (EE fs) Z rest ((d, .pointer (some ⟨b, o + i.toNat * sz, none⟩)) :: F) C) : Lx P G ro ops N ds (EE fs) Z (⟨some d, .indexAddr t x ix, ty, pos, af, gd⟩ :: rest) F C :=
  lx_val (v := .pointer (some ⟨b, o + i.toNat * sz, none⟩)) rfl hw hd (fun _ h => by cases h) (fun a w ha _ => by
    simp only [execOp, ha.ev hx, ha.ev hi]
    simp [Instr.indexAt, asIntOf, run_underlying hu, Instr.sureAddr, hb, hs, Addr.add_mid]) h
/-- An element's place in a slice. -/
theorem lx_is {t e : TypeId} {len cap sz : Nat} {x ix : Operand} {b o : Nat} {i : Int} (hx : evF F x = some (.slice (some ⟨b, o, none⟩) len cap)) (hi : evF F ix = some (I i)) (hu : P.underlying t = some (.slice e))
    (hs : ∀ w, (sizeOf e).run P w = .ok sz w) (hb : 0 ≤ i ∧ i < len) (hw : wantF ops F ⟨some d, .indexAddr t x ix, ty, pos, af, gd⟩ = some true) (hd : Nat.blt d N = true)
    (h : Lx P G ro ops N ds (EE fs) Z rest ((d, .pointer (some ⟨b, o + i.toNat * sz, none⟩)) :: F) C) : Lx P G ro ops N ds (EE fs) Z (⟨some d, .indexAddr t x ix, ty, pos, af, gd⟩ :: rest) F C :=
  lx_val (v := .pointer (some ⟨b, o + i.toNat * sz, none⟩)) rfl hw hd (fun _ h => by cases h) (fun a w ha _ => by
    simp only [execOp, ha.ev hx, ha.ev hi]
    simp [Instr.indexAt, asIntOf, run_underlying hu, hb, hs, Addr.add_mid]) h
/-- A field's place. -/
theorem lx_fa {t : TypeId} {fields : Array Field} {f : Nat} {fd : Field} {sz : Nat} {x : Operand} {b o : Nat} (hx : evF F x = some (.pointer (some ⟨b, o, none⟩))) (hu : P.underlying t = some (.struct fields)) (hf : fields[f]? = some fd)
    (hs : ∀ w, (sizeOf fd.type).run P w = .ok sz w) (hz : sz ≠ 0) (hw : wantF ops F ⟨some d, .fieldAddr t x f, ty, pos, af, gd⟩ = some true) (hd : Nat.blt d N = true)
    (h : Lx P G ro ops N ds (EE fs) Z rest ((d, .pointer (some ⟨b, o + fd.offset, none⟩)) :: F) C) : Lx P G ro ops N ds (EE fs) Z (⟨some d, .fieldAddr t x f, ty, pos, af, gd⟩ :: rest) F C :=
  lx_val (v := .pointer (some ⟨b, o + fd.offset, none⟩)) rfl hw hd (fun _ h => by cases h) (fun a w ha _ => by
    simp only [execOp, ha.ev hx]
    simp [Instr.fieldAt, run_underlying hu, hf, Instr.sureAddr, fieldPlace, hs, hz, Addr.add_mid]) h
/-- One cell read. -/
theorem lx_load {t : TypeId} {x : Operand} {ad : Addr} {v : Value} (hx : evF F x = some (.pointer (some ad))) (hag : ∀ w, (isAgg t).run P w = .ok false w) (hc : ∀ w, C w → w.cell? ad = some v)
    (hw : wantF ops F ⟨some d, .load t x, ty, pos, af, gd⟩ = some true) (hd : Nat.blt d N = true)
    (h : Lx P G ro ops N ds (EE fs) Z rest ((d, v) :: F) C) : Lx P G ro ops N ds (EE fs) Z (⟨some d, .load t x, ty, pos, af, gd⟩ :: rest) F C :=
  lx_val (v := v) rfl hw hd (fun _ h => by cases h) (fun a w ha hC => by
    have hc := hc w hC.1
    simp only [execOp, ha.ev hx]
    simp [Instr.loadAt, Instr.sureAddr, loadVar, hag, load, Sem.run, hc]) h
/-- A whole array or struct read. -/
theorem lx_loadr {t : TypeId} {x : Operand} {b o n : Nat} {cs : List Value} (hx : evF F x = some (.pointer (some ⟨b, o, none⟩))) (hag : ∀ w, (isAgg t).run P w = .ok true w) (hs : ∀ w, (sizeOf t).run P w = .ok n w) (hn : cs.length = n)
    (hc : ∀ w, C w → w.rangeAt b o cs) (hw : wantF ops F ⟨some d, .load t x, ty, pos, af, gd⟩ = some true) (hd : Nat.blt d N = true)
    (h : Lx P G ro ops N ds (EE fs) Z rest ((d, .agg cs.toArray) :: F) C) : Lx P G ro ops N ds (EE fs) Z (⟨some d, .load t x, ty, pos, af, gd⟩ :: rest) F C :=
  lx_val (v := .agg cs.toArray) rfl hw hd (fun _ h => by cases h) (fun a w ha hC => by
    have hl := run_loadCells_list (P := P) w ⟨b, o, none⟩ cs (fun j v hv => by rw [Addr.add_mid]; exact hc w hC.1 j v hv)
    rw [hn] at hl
    simp only [execOp, ha.ev hx]
    simp [Instr.loadAt, Instr.sureAddr, loadVar, hag, hs, hl]) h
/-- An element of an array value. -/
theorem lx_idx {t e : TypeId} {len : Nat} {x ix : Operand} {cs : Array Value} {i : Int} {v : Value} (hx : evF F x = some (.agg cs)) (hi : evF F ix = some (I i)) (hu : P.underlying t = some (.array len e))
    (hs : ∀ w, (sizeOf e).run P w = .ok 1 w) (hag : ∀ w, (isAgg e).run P w = .ok false w) (hb : 0 ≤ i ∧ i < len) (hv : cs[i.toNat]? = some v) (hw : wantF ops F ⟨some d, .index t x ix, ty, pos, af, gd⟩ = some true) (hd : Nat.blt d N = true)
    (h : Lx P G ro ops N ds (EE fs) Z rest ((d, v) :: F) C) : Lx P G ro ops N ds (EE fs) Z (⟨some d, .index t x ix, ty, pos, af, gd⟩ :: rest) F C :=
  lx_val (v := v) rfl hw hd (fun _ h => by cases h) (fun a w ha _ => by
    simp only [execOp, ha.ev hx, ha.ev hi]
    simp [Instr.index, asIntOf, run_underlying hu, hb, hs, part, hag, hv]) h
theorem lx_build {t : TypeId} {ps : List (Nat × Operand)} {vs : List Value} {v : Value} (hx : evL F (ps.map (·.2)) = some vs) (hr : ∀ w, (Instr.build t ((ps.map (·.1)).zip vs).toArray).run P w = .ok v w)
    (hw : wantF ops F ⟨some d, .build t ps.toArray, ty, pos, af, gd⟩ = some true) (hd : Nat.blt d N = true)
    (h : Lx P G ro ops N ds (EE fs) Z rest ((d, v) :: F) C) : Lx P G ro ops N ds (EE fs) Z (⟨some d, .build t ps.toArray, ty, pos, af, gd⟩ :: rest) F C :=
  lx_val (v := v) rfl hw hd (fun _ h => by cases h) (fun a w ha _ => by
    have e : (ps.toArray.map fun (i, x) => (i, a.eval x)) = ((ps.map (·.1)).zip vs).toArray := by
      rw [← ha.evL hx, List.map_toArray]
      rw [List.map_map, List.zip_map']
      rfl
    show ((do pure (.value (← Instr.build t (ps.toArray.map fun (i, x) => (i, a.eval x)))) : Sem Next)).run P w = _
    rw [e]
    simp only [Sem.run_bind, hr, Result.andThen_ok]; rfl) h
theorem lx_len {x : Operand} {t : TypeId} {vx : Value} {n : Int} (hx : evF F x = some vx) (hr : ∀ w, (Builtin.len_ #[t] ty #[vx]).run P w = .ok (I n) w) (hw : wantF ops F ⟨some d, .call { callee := .builtin .len, args := #[x], argTypes := #[t] }, ty, pos, af, gd⟩ = some true) (hd : Nat.blt d N = true)
    (h : Lx P G ro ops N ds (EE fs) Z rest ((d, I n) :: F) C) : Lx P G ro ops N ds (EE fs) Z (⟨some d, .call { callee := .builtin .len, args := #[x], argTypes := #[t] }, ty, pos, af, gd⟩ :: rest) F C :=
  lx_val (v := I n) rfl hw hd (fun _ h => by cases h) (fun a w ha _ => by
    simp only [execOp, resolve, invoke, builtin, Sem.run_bind, Sem.run_pure, Result.andThen_ok, List.map_toArray, List.map_cons, List.map_nil, ha.ev hx, hr]) h
theorem len_slice {t e : TypeId} (hu : P.underlying t = some (.slice e)) (a : Option Addr) (n c : Nat) (w : World) : (Builtin.len_ #[t] ty #[.slice a n c]).run P w = .ok (I n) w := by
  simp [Builtin.len_, run_underlying hu, goInt]
/-- A part of an array variable, as a slice. -/
theorem lx_slarr {t e : TypeId} {n sz : Nat} {x : Operand} {lo hi : Option Operand} {b o l h' : Nat} (hx : evF F x = some (.pointer (some ⟨b, o, none⟩))) (hu : P.underlying t = some (.array n e)) (hs : ∀ w, (sizeOf e).run P w = .ok sz w)
    (hl : (lo.map (evF F)).getD (some (I 0)) = some (I l)) (hh : (hi.map (evF F)).getD (some (I n)) = some (I h')) (hb : l ≤ h' ∧ h' ≤ n) (hne : l ≠ n)
    (hw : wantF ops F ⟨some d, .slice t x lo hi none, ty, pos, af, gd⟩ = some true) (hd : Nat.blt d N = true)
    (h : Lx P G ro ops N ds (EE fs) Z rest ((d, .slice (some ⟨b, o + l * sz, none⟩) (h' - l) (n - l)) :: F) C) : Lx P G ro ops N ds (EE fs) Z (⟨some d, .slice t x lo hi none, ty, pos, af, gd⟩ :: rest) F C :=
  lx_val (v := .slice (some ⟨b, o + l * sz, none⟩) (h' - l) (n - l)) rfl hw hd (fun _ h => by cases h) (fun a w ha _ => by
    simp only [execOp, ha.ev hx]
    cases lo with
    | none =>
      simp at hl
      have hl0 : l = 0 := by omega
      subst hl0
      cases hi with
      | none =>
        simp at hh
        have : h' = n := by omega
        subst this
        simp [Instr.sliceAt, run_underlying hu, Instr.sureAddr, Instr.sliceBounds, hs, Addr.add_mid]
      | some y =>
        have hy := ha.ev (x := y) (v := I h') (by simpa using hh)
        have hb2 : h' ≤ n := hb.2
        simp [Instr.sliceAt, run_underlying hu, Instr.sureAddr, Instr.sliceBounds, Instr.sliceBound, asIntOf, hy, hs, Addr.add_mid, hb2]
    | some z =>
      have hz := ha.ev (x := z) (v := I l) (by simpa using hl)
      have hne' : ¬ n = l := fun e => hne e.symm
      have hb1 : l ≤ h' := hb.1
      cases hi with
      | none =>
        simp at hh
        have : h' = n := by omega
        subst this
        simp [Instr.sliceAt, run_underlying hu, Instr.sureAddr, Instr.sliceBounds, Instr.sliceBound, asIntOf, hz, hs, hne', Addr.add_mid, hb1]
      | some y =>
        have hy := ha.ev (x := y) (v := I h') (by simpa using hh)
        have hb2 : h' ≤ n := hb.2
        simp [Instr.sliceAt, run_underlying hu, Instr.sureAddr, Instr.sliceBounds, Instr.sliceBound, asIntOf, hy, hz, hs, hne', Addr.add_mid, hb1, hb2]) h
end
end Go.Proofs.YtkfnadpdcgcffaaDoor
