/-
  A struct whose one field fills it; an array of which only the first element is named. Nothing here names a program.
  Structs whose one field fills them, compared. Nothing here names a program.
  The engine, part 27: rows inside blocks; calls whose answer is known. Nothing here names a program.
  The engine, part 28: arrays of bytes compared; bools compared. Nothing here names a program.
  The engine, part 29: parts laid into what is built; rows of rows. Nothing here names a program.
  The engine, part 30: a plain region walked in two parts, the second as it suits. Nothing here names a program.
  The engine, part 31: a region that draws its order, by the tree of its orders where memory grows in several ways at once. Nothing here names a program.
  The engine, part 32: a slice of bytes made; a choice behind what was passed by. Nothing here names a program.
  The engine, part 33: reads of what no step of a region can turn; the base moved. Nothing here names a program.
  The engine, part 34: slices from a place on; slices as arrays. Nothing here names a program.
  The engine, part 35: structs of two rows: built, read, compared. Nothing here names a program.
  The engine, part 36: rows of rows of twelve. Nothing here names a program.
  The engine, part 37: two ways that meet again. Nothing here names a program.
  The engine, part 38: a large region that draws its order and makes nothing: its check by a table. Nothing here names a program.
  The engine, part 39: structs of three rows: built, read, written; arrays of rows compared. Nothing here names a program.
  The engine, part 40: arrays of rows of twelve, built of some; three results. Nothing here names a program.
  The engine, part 41: arrays of rows of twelve, made and read; rounds that carry a fact; a single value handed back. Nothing here names a program.
  The engine, part 42: rows of rows of any width; parts of rows within rows. Nothing here names a program.
  The engine, part 43: slices of values of several cells: a literal of one, append. Nothing here names a program.
  The engine, part 44: slices made, and bytes appended, where the class is only narrowed (marks 2999998 and 2999997).
  The engine, part 45: slice literals of values of several cells; the class is only narrowed.
  The engine, part 46: bytes made bytes again, beside other steps. Nothing here names a program.
  The engine, part 47: two variables handed back.
  Values held in interfaces, their methods called; parts of slices with three indices.
  The engine, part 49: a byte of a string. Nothing here names a program.
  The engine, part 50: numbers moved by eight; slices of bytes of our own wherever they are kept. Nothing here names a program.
  The engine, part 51: a call behind which all that lies in memory is old. Nothing here names a program.
  The engine, part 52: slices made with room, of any size. Nothing here names a program.
  The engine, part 53: what a callee has made is carried along. Nothing here names a program.
  The engine, part 54: a function that is handed on as a value, called. Nothing here names a program.
  The engine, part 55: one world behind another: what a call may turn, slices of our own told of a world alone. Nothing here names a program.
  The engine, part 56: places in slices of structs, wherever they lie.
  The engine, part 57: rows read wherever they lie.
  The engine, part 58: values of several cells appended to a slice of our own: from wherever, or noughts.
  The engine, part 59: a slice made, its room a word, beside reads in any order.
  The engine, part 60: a whole array as a slice, wherever it lies in a thing.
  The engine, part 61: one's own blocks told of a world alone: stores, copies, results.
  The engine, part 62: function values with what they hold, called; slices of rows, built. Nothing here names a program.
-/
import Derived.Test.YtdkgiilmanhpbaaX2
import Derived.Laws.MakeOwn
import Derived.Deep.AppendSrc
import Derived.Laws.Strings
import Derived.ChangeArms
namespace Go.Proofs.Ytdkgiilmanhpbaa
open Go.RowKit
set_option maxRecDepth 100000
section
variable {P : Program} {G : Cls} {ro : Option Nat} {ops : Array Oper} {N : Nat} {ds : List Deferred} {fs : List Nat} {Z : Fr → Cls → Prop} {rest : List Oper} {F : Fr} {C : Cls} {d : Nat} {ty : TypeId} {pos : String} {af : Array Edge} {gd : Option (Nat × Bool)}
end
end Go.Proofs.Ytdkgiilmanhpbaa

namespace Go.Proofs.Ytdkgiilmanhpbaa
open Go.RowKit
set_option maxRecDepth 100000
section
variable {P : Program}
theorem OwnB.range {w : World} {b : Nat} {c : List Value} {t : TypeId} (h : OwnB w b c t) : w.rangeAt b 0 c := by
  obtain ⟨fz, h, _⟩ := h
  intro j v hj
  simp [World.cell?, h, hj]
end
end Go.Proofs.Ytdkgiilmanhpbaa

namespace Go.Proofs.Ytdkgiilmanhpbaa
open Go.RowKit
set_option maxRecDepth 100000
section
variable {P : Program} {G : Cls} {ro : Option Nat} {ops : Array Oper} {N : Nat} {ds : List Deferred} {fs : List Nat} {Z : Fr → Cls → Prop} {F : Fr} {C : Cls} {rest : List Oper}
variable {d : Nat} {ty : TypeId} {pos : String} {af : Array Edge} {gd : Option (Nat × Bool)}
variable {B : Bs} {L : Hl}
/-- A call that answers yes or no, where it is known which. -/
theorem lx_callB {f : Nat} {al : List Operand} {at' : Array TypeId} {vs : List Value} {b : Bool} (b' : Bool) (hf : fs.any (Nat.beq f) = false) (ha : evL F al = some vs) (he : Enters P f) (hp : Pure P G f vs (.bool b)) (hb : b = b')
    (hw : wantF ops F ⟨some d, .call { callee := .value (.func f), args := al.toArray, argTypes := at' }, ty, pos, af, gd⟩ = some true) (hd : Nat.blt d N = true)
    (h : Lx P G ro ops N ds (EE fs) Z rest ((d, .bool b') :: F) C) : Lx P G ro ops N ds (EE fs) Z (⟨some d, .call { callee := .value (.func f), args := al.toArray, argTypes := at' }, ty, pos, af, gd⟩ :: rest) F C :=
  lx_call hf ha he (hb ▸ hp) hw hd h
theorem lx_binB {op : BinOp} {t yt : TypeId} {x y : Operand} {vx vy : Value} {b : Bool} (b' : Bool) (hx : evF F x = some vx) (hy : evF F y = some vy) (hg : ∀ w, (eqGuard op t x y vx vy).run P w = .ok () w)
    (hr : ∀ w, (binOp op t vx vy).run P w = .ok (.bool b) w) (hb : b = b') (hw : wantF ops F ⟨some d, .binOp op t x y yt, ty, pos, af, gd⟩ = some true) (hd : Nat.blt d N = true)
    (h : Lx P G ro ops N ds (EE fs) Z rest ((d, .bool b') :: F) C) : Lx P G ro ops N ds (EE fs) Z (⟨some d, .binOp op t x y yt, ty, pos, af, gd⟩ :: rest) F C :=
  lx_bin hx hy hg (hb ▸ hr) hw hd h
end
end Go.Proofs.Ytdkgiilmanhpbaa

namespace Go.Proofs.Ytdkgiilmanhpbaa
open Go.RowKit
set_option maxRecDepth 100000
section
variable {P : Program}
end
end Go.Proofs.Ytdkgiilmanhpbaa

namespace Go.Proofs.Ytdkgiilmanhpbaa
open Go.RowKit
set_option maxRecDepth 100000
/-! ### Rows of six -/
section
variable {P : Program} {G : Cls} {ro : Option Nat} {ops : Array Oper} {N : Nat} {ds : List Deferred} {fs : List Nat} {Z : Fr → Cls → Prop} {F : Fr} {C : Cls} {rest : List Oper}
variable {d : Nat} {ty : TypeId} {pos : String} {af : Array Edge} {gd : Option (Nat × Bool)}
end
end Go.Proofs.Ytdkgiilmanhpbaa

namespace Go.Proofs.Ytdkgiilmanhpbaa
open Go.RowKit
set_option maxRecDepth 100000
section
variable {P : Program} {G : Cls} {ro : Option Nat} {ops : Array Oper} {N : Nat} {ds : List Deferred} {E : Oper → Bool} {Q : Exit → Act → World → Prop}
end
section
variable {P : Program} {G : Cls} {ro : Option Nat} {ops : Array Oper} {N : Nat} {ds : List Deferred} {fs : List Nat} {Z : Fr → Cls → Prop} {F : Fr} {C : Cls} {rest : List Oper}
variable {d : Nat} {ty : TypeId} {pos : String} {af : Array Edge} {gd : Option (Nat × Bool)}
end
section
variable {P : Program} {G : Cls} {ro : Option Nat} {N : Nat} {ds : List Deferred} {F : Fr} {C : Cls} {K : KK}
end
end Go.Proofs.Ytdkgiilmanhpbaa

namespace Go.Proofs.Ytdkgiilmanhpbaa
open Go.RowKit
set_option maxRecDepth 100000
section
variable {P : Program} {G : Cls} {ro : Option Nat} {N : Nat} {ds : List Deferred} {l : List Oper} {E : Oper → Bool} {K : KK} {F : Fr} {C : Cls}
end
section
variable {P : Program} {G : Cls} {ro : Option Nat} {ops : Array Oper} {N : Nat} {ds : List Deferred} {fs : List Nat} {Z : Fr → Cls → Prop} {F : Fr} {rest : List Oper}
variable {d : Nat} {ty : TypeId} {pos : String} {af : Array Edge} {gd : Option (Nat × Bool)}
variable {B : Bs} {L : Hl}
end
end Go.Proofs.Ytdkgiilmanhpbaa

namespace Go.Proofs.Ytdkgiilmanhpbaa
open Go.RowKit
set_option maxRecDepth 100000
section
variable {P : Program} {G : Cls} {ro : Option Nat} {ops : Array Oper} {N : Nat} {ds : List Deferred} {fs : List Nat} {Z : Fr → Cls → Prop} {F : Fr} {C : Cls} {rest : List Oper}
variable {d : Nat} {ty : TypeId} {pos : String} {af : Array Edge} {gd : Option (Nat × Bool)}
variable {B : Bs} {L : Hl}
end
end Go.Proofs.Ytdkgiilmanhpbaa

namespace Go.Proofs.Ytdkgiilmanhpbaa
open Go.RowKit
set_option maxRecDepth 100000
section
variable {P : Program} {G : Cls} {ro : Option Nat} {md : Region.Mode} {ops : Array Oper} {N : Nat} {ds : List Deferred} {E : Oper → Bool} {Q : Exit → Act → World → Prop}
end
section
variable {P : Program} {G : Cls} {ro : Option Nat} {N : Nat} {ds : List Deferred} {l : List Oper} {E : Oper → Bool} {K : KK} {F : Fr} {C : Cls}
theorem Pure.sub {G' : Cls} {f : FuncId} {vs : List Value} {v : Value} (h : Pure P G f vs v) (hle : ∀ w, G' w → G w) : Pure P G' f vs v := fun w hw => h w (hle w hw)
end
end Go.Proofs.Ytdkgiilmanhpbaa

namespace Go.Proofs.Ytdkgiilmanhpbaa
open Go.RowKit
set_option maxRecDepth 100000
section
variable {P : Program} {G : Cls} {ro : Option Nat} {ops : Array Oper} {N : Nat} {ds : List Deferred} {fs : List Nat} {Z : Fr → Cls → Prop} {F : Fr} {C : Cls} {rest : List Oper}
variable {d : Nat} {ty : TypeId} {pos : String} {af : Array Edge} {gd : Option (Nat × Bool)}
end
end Go.Proofs.Ytdkgiilmanhpbaa

namespace Go.Proofs.Ytdkgiilmanhpbaa
open Go.RowKit
set_option maxRecDepth 100000
section
variable {P : Program}
/-! ### Compared -/
/-! ### Read -/
/-! ### Built -/
theorem run_buildP {t : TypeId} {fields : Array Field} {ps : Array (Nat × Nat)} {c out : List Value} (hz : ∀ w, (zeroValue t).run P w = .ok (.agg c.toArray) w) (hu : P.underlying t = some (.struct fields))
    (hm : ∀ w, (Array.mapM (fun f => Prod.mk f.offset <$> sizeOf f.type) fields : Sem _).run P w = .ok ps w) (parts : List (Nat × Value)) (hf : Instr.fill (fun i => ps[i]?) c.toArray parts = some out.toArray) (w : World) :
    (Instr.build t parts.toArray).run P w = .ok (.agg out.toArray) w := by
  have hm' : (Array.mapM (fun f => do let x ← sizeOf f.type; pure (f.offset, x)) fields : Sem _).run P w = .ok ps w := hm w
  simp only [Instr.build, hz, run_underlying hu, Sem.run_bind, Result.andThen_ok]
  rw [hm', Result.andThen_ok]
  rw [show (Value.agg c.toArray).cells = c.toArray from rfl, hf]
  rfl
section
variable {t : TypeId} {f g : Field} {m n : Nat} {za zb : List (BitVec 64)}
variable {G : Cls} {ro : Option Nat} {ops : Array Oper} {N : Nat} {ds : List Deferred} {fs : List Nat} {Z : Fr → Cls → Prop} {rest : List Oper} {F : Fr} {C : Cls} {d : Nat} {ty : TypeId} {pos : String} {af : Array Edge} {gd : Option (Nat × Bool)}
/-- What is known of a struct of two rows. -/
structure Two (P : Program) (t : TypeId) (f g : Field) (m n : Nat) (za zb : List (BitVec 64)) : Prop where
  u : P.underlying t = some (.struct #[f, g])
  h0 : f.offset = 0
  h1 : g.offset = m
  s0 : ∀ w, (sizeOf f.type).run P w = .ok m w
  s1 : ∀ w, (sizeOf g.type).run P w = .ok n w
  z : ∀ w, (zeroValue t).run P w = .ok (.agg ((za ++ zb).map U64).toArray) w
  la : za.length = m
  lb : zb.length = n
end
end
end Go.Proofs.Ytdkgiilmanhpbaa

namespace Go.Proofs.Ytdkgiilmanhpbaa
open Go.RowKit
set_option maxRecDepth 100000
/-! ### Rows of twelve -/
section
variable {P : Program} {G : Cls} {ro : Option Nat} {ops : Array Oper} {N : Nat} {ds : List Deferred} {fs : List Nat} {Z : Fr → Cls → Prop} {F : Fr} {C : Cls} {rest : List Oper}
variable {d : Nat} {ty : TypeId} {pos : String} {af : Array Edge} {gd : Option (Nat × Bool)}
end
end Go.Proofs.Ytdkgiilmanhpbaa

namespace Go.Proofs.Ytdkgiilmanhpbaa
open Go.RowKit
section
variable {P : Program} {G : Cls} {ro : Option Nat} {N : Nat} {ds : List Deferred} {F : Fr} {C : Cls} {K : KK} {B : Bs}
end
end Go.Proofs.Ytdkgiilmanhpbaa

namespace Go.Proofs.Ytdkgiilmanhpbaa
open Go.RowKit
set_option maxRecDepth 100000
/-- What an operation writes (0: nothing), what it looks at, for what it waits. -/
abbrev Trow := Nat × List Nat × List Nat
section
variable {l : List Oper} {E : Oper → Bool} {T : List Trow}
end
section
variable {P : Program} {G : Cls} {ro : Option Nat} {N : Nat} {ds : List Deferred} {F : Fr} {C : Cls} {K : KK}
end
end Go.Proofs.Ytdkgiilmanhpbaa

namespace Go.Proofs.Ytdkgiilmanhpbaa
open Go.RowKit
set_option maxRecDepth 100000
section
variable {P : Program}
/-! ### Read, written -/
/-! ### Built -/
section
variable {t : TypeId} {f g h : Field} {m : Nat} {za zb zc : List (BitVec 64)}
variable {G : Cls} {ro : Option Nat} {ops : Array Oper} {N : Nat} {ds : List Deferred} {fs : List Nat} {Z : Fr → Cls → Prop} {rest : List Oper} {F : Fr} {C : Cls} {d : Nat} {ty : TypeId} {pos : String} {af : Array Edge} {gd : Option (Nat × Bool)}
end
/-! ### Arrays of rows, compared -/
end
end Go.Proofs.Ytdkgiilmanhpbaa

namespace Go.Proofs.Ytdkgiilmanhpbaa
open Go.RowKit
set_option maxRecDepth 100000
section
variable {P : Program} {G : Cls} {ro : Option Nat} {ops : Array Oper} {N : Nat} {ds : List Deferred} {fs : List Nat} {Z : Fr → Cls → Prop} {F : Fr} {C : Cls} {rest : List Oper}
variable {d : Nat} {ty : TypeId} {pos : String} {af : Array Edge} {gd : Option (Nat × Bool)} {B : Bs} {L : Hl}
end
end Go.Proofs.Ytdkgiilmanhpbaa

namespace Go.Proofs.Ytdkgiilmanhpbaa
open Go.RowKit
set_option maxRecDepth 100000
section
variable {P : Program} {G : Cls} {ro : Option Nat} {ops : Array Oper} {N : Nat} {ds : List Deferred} {fs : List Nat} {Z : Fr → Cls → Prop} {F : Fr} {C : Cls} {rest : List Oper}
variable {d : Nat} {ty : TypeId} {pos : String} {af : Array Edge} {gd : Option (Nat × Bool)}
end
section
variable {P : Program} {G : Cls} {N : Nat} {ds : List Deferred} {F : Fr} {B : Bs} {L : Hl} {K : KK}
end
end Go.Proofs.Ytdkgiilmanhpbaa

namespace Go.Proofs.Ytdkgiilmanhpbaa
open Go.RowKit
set_option maxRecDepth 100000
/-! ### Rows of any width -/
section
variable {s bw : Nat} {uf : BitVec bw → Value}
/-! ### Made -/
end
section
variable {P : Program} {G : Cls} {ro : Option Nat} {ops : Array Oper} {N : Nat} {ds : List Deferred} {fs : List Nat} {Z : Fr → Cls → Prop} {F : Fr} {C : Cls} {rest : List Oper}
variable {d : Nat} {ty : TypeId} {pos : String} {af : Array Edge} {gd : Option (Nat × Bool)} {s bw : Nat} {uf : BitVec bw → Value}
end
/-! ### Rows within rows -/
end Go.Proofs.Ytdkgiilmanhpbaa

namespace Go.Proofs.Ytdkgiilmanhpbaa
open Go.RowKit
set_option maxRecDepth 100000
def OwnW (L : Hl) (n : Nat) (e : TypeId) (s : Nat) (a0 : Option Addr) (cap nx : Nat) (xs : List Value) : Prop :=
  (a0 = none ∧ xs = [] ∧ nx = 0 ∧ cap = 0) ∨ ∃ b c, a0 = some ⟨b, 0, none⟩ ∧ lkB L n = some (b, c, e) ∧ c.length = cap * s ∧ nx ≤ cap ∧ xs.length = nx * s ∧ c.take xs.length = xs
theorem OwnW.len {L : Hl} {n : Nat} {e : TypeId} {s : Nat} {a0 : Option Addr} {cap nx : Nat} {xs : List Value} (h : OwnW L n e s a0 cap nx xs) : xs.length = nx * s := by
  rcases h with ⟨_, rfl, rfl, _⟩ | ⟨_, _, _, _, _, _, h, _⟩
  · simp
  · exact h
section
variable {P : Program} {G : Cls} {ro : Option Nat} {ops : Array Oper} {N : Nat} {ds : List Deferred} {fs : List Nat} {Z : Fr → Cls → Prop} {F : Fr} {C : Cls} {rest : List Oper}
variable {d : Nat} {ty : TypeId} {pos : String} {af : Array Edge} {gd : Option (Nat × Bool)} {B : Bs} {L : Hl}
end
end Go.Proofs.Ytdkgiilmanhpbaa

namespace Go.Proofs.Ytdkgiilmanhpbaa
open Go.RowKit
set_option maxRecDepth 100000
section
variable {P : Program} {G : Cls} {ro : Option Nat} {ops : Array Oper} {N : Nat} {ds : List Deferred} {fs : List Nat} {Z : Fr → Cls → Prop} {F : Fr} {C : Cls} {rest : List Oper}
variable {d : Nat} {ty : TypeId} {pos : String} {af : Array Edge} {gd : Option (Nat × Bool)}
variable {B : Bs} {L : Hl}
end
end Go.Proofs.Ytdkgiilmanhpbaa

namespace Go.Proofs.Ytdkgiilmanhpbaa
open Go.RowKit
set_option maxRecDepth 100000
section
variable {P : Program} {G : Cls} {ro : Option Nat} {ops : Array Oper} {N : Nat} {ds : List Deferred} {fs : List Nat} {Z : Fr → Cls → Prop} {F : Fr} {C : Cls} {rest : List Oper}
variable {d : Nat} {ty : TypeId} {pos : String} {af : Array Edge} {gd : Option (Nat × Bool)} {s bw : Nat} {uf : BitVec bw → Value}
variable {B : Bs} {L : Hl}
end
end Go.Proofs.Ytdkgiilmanhpbaa

namespace Go.Proofs.Ytdkgiilmanhpbaa
open Go.RowKit
set_option maxRecDepth 100000
section
variable {P : Program} {G : Cls} {ro : Option Nat} {ops : Array Oper} {N : Nat} {ds : List Deferred} {fs : List Nat} {Z : Fr → Cls → Prop} {F : Fr} {C : Cls} {rest : List Oper}
variable {d : Nat} {ty : TypeId} {pos : String} {af : Array Edge} {gd : Option (Nat × Bool)}
variable {B : Bs} {L : Hl}
end
end Go.Proofs.Ytdkgiilmanhpbaa

namespace Go.Proofs.Ytdkgiilmanhpbaa
open Go.RowKit
set_option maxRecDepth 100000
section
variable {P : Program} {F : Fr} {B : Bs} {L : Hl}
end
end Go.Proofs.Ytdkgiilmanhpbaa

namespace Go.Proofs.Ytdkgiilmanhpbaa
open Go.RowKit
set_option maxRecDepth 100000
section
variable {P : Program} {G : Cls} {ro : Option Nat} {ops : Array Oper} {N : Nat} {ds : List Deferred} {fs : List Nat} {Z : Fr → Cls → Prop} {F : Fr} {C : Cls} {rest : List Oper}
variable {d : Nat} {ty : TypeId} {pos : String} {af : Array Edge} {gd : Option (Nat × Bool)}
end
end Go.Proofs.Ytdkgiilmanhpbaa

namespace Go.Proofs.Ytdkgiilmanhpbaa
open Go.RowKit
set_option maxRecDepth 100000
section
variable {P : Program} {G : Cls} {ro : Option Nat} {ops : Array Oper} {N : Nat} {ds : List Deferred} {fs : List Nat} {Z : Fr → Cls → Prop} {F : Fr} {C : Cls} {rest : List Oper}
variable {d : Nat} {ty : TypeId} {pos : String} {af : Array Edge} {gd : Option (Nat × Bool)}
end
end Go.Proofs.Ytdkgiilmanhpbaa

namespace Go.Proofs.Ytdkgiilmanhpbaa
open Go.RowKit
theorem OwnSl.of {own L : Hl} {n : Nat} {e : TypeId} {a0 : Option Addr} {cap : Nat} {xs : List (BitVec 8)} (h : OwnSl own n e a0 cap xs) (hl : lkB L n = lkB own n) : OwnSl L n e a0 cap xs := by
  unfold OwnSl at *
  rw [hl]
  exact h
end Go.Proofs.Ytdkgiilmanhpbaa

namespace Go.Proofs.Ytdkgiilmanhpbaa
open Go.RowKit
section
variable {P : Program} {G : Cls} {ro : Option Nat} {ops : Array Oper} {N : Nat} {ds : List Deferred} {fs : List Nat} {Z : Fr → Cls → Prop} {F : Fr} {C : Cls} {rest : List Oper}
variable {ty : TypeId} {pos : String} {af : Array Edge} {gd : Option (Nat × Bool)}
end
end Go.Proofs.Ytdkgiilmanhpbaa

namespace Go.Proofs.Ytdkgiilmanhpbaa
open Go.RowKit
set_option maxRecDepth 100000
section
variable {P : Program} {G : Cls} {ro : Option Nat} {ops : Array Oper} {N : Nat} {ds : List Deferred} {fs : List Nat} {Z : Fr → Cls → Prop} {F : Fr} {C : Cls} {rest : List Oper}
variable {d : Nat} {ty : TypeId} {pos : String} {af : Array Edge} {gd : Option (Nat × Bool)} {B : Bs} {L : Hl}
end
end Go.Proofs.Ytdkgiilmanhpbaa

namespace Go.Proofs.Ytdkgiilmanhpbaa
open Go.RowKit
section
variable {P : Program} {G : Cls} {B : Bs} {L : Hl} {Y : Nat → Prop} {w w' : World} {b : Nat} {cs : List Value}
end
end Go.Proofs.Ytdkgiilmanhpbaa

namespace Go.Proofs.Ytdkgiilmanhpbaa
open Go.RowKit
set_option maxRecDepth 100000
section
variable {P : Program} {G : Cls} {ro : Option Nat} {ops : Array Oper} {N : Nat} {ds : List Deferred} {fs : List Nat} {Z : Fr → Cls → Prop} {F : Fr} {C : Cls} {rest : List Oper}
variable {d : Nat} {ty : TypeId} {pos : String} {af : Array Edge} {gd : Option (Nat × Bool)} {B : Bs} {L : Hl}
end
end Go.Proofs.Ytdkgiilmanhpbaa

namespace Go.Proofs.Ytdkgiilmanhpbaa
open Go.RowKit
set_option maxRecDepth 100000

/-- The world has grown; of what was there only blocks in M may have turned. -/
structure MM (M : Nat → Prop) (w w' : World) : Prop where
  os : w'.os = w.os
  tape : w'.tape = w.tape
  output : w'.output = w.output
  size : w.heap.size ≤ w'.heap.size
  keep : ∀ k, k < w.heap.size → ¬ M k → w'.heap[k]? = w.heap[k]?
theorem MM.grow {M : Nat → Prop} {w w' : World} (h : MM M w w') (hM : ∀ k, k < w.heap.size → ¬ M k) : Grow w w' := ⟨h.os, h.tape, h.output, h.size, fun k hk => h.keep k hk (hM k hk)⟩
theorem MM.mono {M M' : Nat → Prop} {w w' : World} (h : MM M w w') (hM : ∀ k, k < w.heap.size → M k → M' k) : MM M' w w' := ⟨h.os, h.tape, h.output, h.size, fun k hk hn => h.keep k hk fun hm => hn (hM k hk hm)⟩
theorem MM.trans {M : Nat → Prop} {a b c : World} (h : MM M a b) (k : MM M b c) : MM M a c :=
  ⟨k.os.trans h.os, k.tape.trans h.tape, k.output.trans h.output, Nat.le_trans h.size k.size, fun i hi hn => (k.keep i (Nat.lt_of_lt_of_le hi h.size) hn).trans (h.keep i hi hn)⟩
theorem MM.own {M : Nat → Prop} {w w' : World} {b : Nat} {c : List Value} {t : TypeId} (h : MM M w w') (ho : OwnB w b c t) (hb : ¬ M b) : OwnB w' b c t := ho.of_same (h.keep b ho.lt hb)
theorem MM.bytes {M : Nat → Prop} {w w' : World} {a : Option Addr} {xs : List (BitVec 8)} (h : MM M w w') (hb : BytesAt w a xs) (ha : ∀ ad, a = some ad → ¬ M ad.block) : BytesAt w' a xs := fun j v hv => by
  obtain ⟨ad, e, hc⟩ := hb j v hv
  refine ⟨ad, e, ?_⟩
  have hl := block_lt_of_cell hc
  have e2 : (ad.add j).block = ad.block := block_add ad j
  rw [World.cell?_of_block (w := w) (h.keep _ hl (by rw [e2]; exact ha ad e))]
  exact hc
theorem MM.range {M : Nat → Prop} {w w' : World} {b o : Nat} {cs : List Value} (h : MM M w w') (hb : w.rangeAt b o cs) (ha : ¬ M b) : w'.rangeAt b o cs := fun j v hv => by
  have hc := hb j v hv
  rw [World.cell?_of_block (w := w) (h.keep b (block_lt_of_cell hc) ha)]
  exact hc
theorem MM.cells {M : Nat → Prop} {w w' : World} {a : Option Addr} {xs : List Value} (h : MM M w w') (hb : CellsAt w a xs) (ha : ∀ ad, a = some ad → ¬ M ad.block) : CellsAt w' a xs := fun j v hv => by
  obtain ⟨ad, e, hc⟩ := hb j v hv
  refine ⟨ad, e, ?_⟩
  have hl := block_lt_of_cell hc
  have e2 : (ad.add j).block = ad.block := block_add ad j
  rw [World.cell?_of_block (w := w) (h.keep _ hl (by rw [e2]; exact ha ad e))]
  exact hc
theorem OwnB.grow {w w' : World} {b : Nat} {c : List Value} {t : TypeId} (h : OwnB w b c t) (hg : Grow w w') : OwnB w' b c t := h.of_same (hg.block b h.lt)
/-- A slice of cells of our own, or nil. -/
def SlV (e : TypeId) (w : World) (a : Option Addr) (cap : Nat) (xs : List Value) : Prop :=
  (a = none ∧ xs = [] ∧ cap = 0) ∨ ∃ b c, a = some ⟨b, 0, none⟩ ∧ OwnB w b c e ∧ c.length = cap ∧ xs.length ≤ cap ∧ c.take xs.length = xs
theorem SlV.cells {e : TypeId} {w : World} {a : Option Addr} {cap : Nat} {xs : List Value} (h : SlV e w a cap xs) : CellsAt w a xs := by
  rcases h with ⟨_, rfl, _⟩ | ⟨b, c, rfl, ho, _, _, ht⟩
  · exact cells_nil _ _
  · rw [← ht]; exact (CellsAt.range ho.range).take _
theorem SlV.bytes {e : TypeId} {w : World} {a : Option Addr} {cap : Nat} {xs : List (BitVec 8)} (h : SlV e w a cap (xs.map U8)) : BytesAt w a xs := h.cells
theorem SlV.grow {e : TypeId} {w w' : World} {a : Option Addr} {cap : Nat} {xs : List Value} (h : SlV e w a cap xs) (hg : Grow w w') : SlV e w' a cap xs := by
  rcases h with h | ⟨b, c, h1, h2, h3⟩
  · exact .inl h
  · exact .inr ⟨b, c, h1, h2.grow hg, h3⟩
theorem SlV.lt {e : TypeId} {w : World} {a : Option Addr} {cap : Nat} {xs : List Value} (h : SlV e w a cap xs) : ∀ ad, a = some ad → ad.block < w.heap.size := fun ad e => by
  rcases h with ⟨rfl, _⟩ | ⟨b, c, rfl, ho, _⟩
  · cases e
  · cases e; exact ho.lt
section
variable {P : Program} {G : Cls} {ro : Option Nat} {ops : Array Oper} {N : Nat} {ds : List Deferred} {fs : List Nat} {Z : Fr → Cls → Prop} {F : Fr} {C : Cls} {rest : List Oper}
variable {ty : TypeId} {pos : String} {af : Array Edge} {gd : Option (Nat × Bool)}
end
section
variable {P : Program} {G : Cls} {ro : Option Nat} {N : Nat} {ds : List Deferred} {F : Fr} {C : Cls} {K : KK}
end
section
variable {P : Program}
end
section
variable {P : Program} {G : Cls} {ro : Option Nat} {ops : Array Oper} {N : Nat} {ds : List Deferred} {fs : List Nat} {Z : Fr → Cls → Prop} {F : Fr} {C : Cls} {rest : List Oper}
variable {d : Nat} {ty : TypeId} {pos : String} {af : Array Edge} {gd : Option (Nat × Bool)} {B : Bs} {L : Hl}
theorem OwnSl.new {Y : Nat → Prop} {w0 w : World} {M : Nat → Prop} {n : Nat} {e : TypeId} {a0 : Option Addr} {cap : Nat} {xs : List (BitVec 8)} (h : OwnSl L n e a0 cap xs) (hp : Hq (plM w0 M) L Y w) : ∀ ad, a0 = some ad → w0.heap.size ≤ ad.block ∨ M ad.block := fun ad e => by
  rcases h with ⟨rfl, rfl, rfl⟩ | ⟨b, c, rfl, hl, h1, h2, h3⟩
  · cases e
  · cases e; exact (hp.own n b c _ hl).2
theorem OwnV.new {Y : Nat → Prop} {w0 w : World} {M : Nat → Prop} {n : Nat} {e : TypeId} {a0 : Option Addr} {cap : Nat} {xs : List Value} (h : OwnV L n e a0 cap xs) (hp : Hq (plM w0 M) L Y w) : ∀ ad, a0 = some ad → w0.heap.size ≤ ad.block ∨ M ad.block := fun ad e => by
  rcases h with ⟨rfl, rfl, rfl⟩ | ⟨b, c, rfl, hl, h1, h2, h3⟩
  · cases e
  · cases e; exact (hp.own n b c _ hl).2
end
/-- The block of a slice. -/
def Of (a : Option Addr) (k : Nat) : Prop := ∃ ad, a = some ad ∧ k = ad.block
section
variable {P : Program} {G : Cls} {ro : Option Nat} {ops : Array Oper} {N : Nat} {ds : List Deferred} {fs : List Nat} {Z : Fr → Cls → Prop} {F : Fr} {C : Cls} {rest : List Oper}
variable {d : Nat} {ty : TypeId} {pos : String} {af : Array Edge} {gd : Option (Nat × Bool)}
end
/-- A slice of values of s cells each of our own, or nil. -/
def SlW (e : TypeId) (s : Nat) (w : World) (a : Option Addr) (cap nx : Nat) (xs : List Value) : Prop :=
  (a = none ∧ xs = [] ∧ nx = 0 ∧ cap = 0) ∨ ∃ b c, a = some ⟨b, 0, none⟩ ∧ OwnB w b c e ∧ c.length = cap * s ∧ nx ≤ cap ∧ xs.length = nx * s ∧ c.take xs.length = xs
theorem SlW.grow {e : TypeId} {s : Nat} {w w' : World} {a : Option Addr} {cap nx : Nat} {xs : List Value} (h : SlW e s w a cap nx xs) (hg : Grow w w') : SlW e s w' a cap nx xs := by
  rcases h with h | ⟨b, c, h1, h2, h3⟩
  · exact .inl h
  · exact .inr ⟨b, c, h1, h2.grow hg, h3⟩
theorem SlW.lt {e : TypeId} {s : Nat} {w : World} {a : Option Addr} {cap nx : Nat} {xs : List Value} (h : SlW e s w a cap nx xs) : ∀ k, Of a k → k < w.heap.size := fun k ⟨ad, e, hk⟩ => by
  rcases h with ⟨rfl, _⟩ | ⟨b, c, rfl, ho, _⟩
  · cases e
  · cases e; subst hk; exact ho.lt
theorem SlW.at {e : TypeId} {s : Nat} {w : World} {a : Option Addr} {cap nx : Nat} {xs : List Value} (h : SlW e s w a cap nx xs) (hx : xs ≠ []) : ∃ b, a = some ⟨b, 0, none⟩ ∧ w.rangeAt b 0 xs := by
  rcases h with ⟨_, h, _⟩ | ⟨b, c, h1, h2, _, _, _, h6⟩
  · exact absurd h hx
  · refine ⟨b, h1, fun j v hv => h2.range j v ?_⟩
    rw [← h6, List.getElem?_take] at hv
    split at hv
    · exact hv
    · cases hv
theorem SlV.at {e : TypeId} {w : World} {a : Option Addr} {cap : Nat} {xs : List Value} (h : SlV e w a cap xs) (hx : xs ≠ []) : ∃ b, a = some ⟨b, 0, none⟩ ∧ b < w.heap.size ∧ w.rangeAt b 0 xs := by
  rcases h with ⟨_, h, _⟩ | ⟨b, c, h1, h2, _, _, h6⟩
  · exact absurd h hx
  · refine ⟨b, h1, h2.lt, fun j v hv => h2.range j v ?_⟩
    rw [← h6, List.getElem?_take] at hv
    split at hv
    · exact hv
    · cases hv
section
variable {P : Program} {G : Cls} {ro : Option Nat} {ops : Array Oper} {N : Nat} {ds : List Deferred} {fs : List Nat} {Z : Fr → Cls → Prop} {F : Fr} {C : Cls} {rest : List Oper}
variable {d : Nat} {ty : TypeId} {pos : String} {af : Array Edge} {gd : Option (Nat × Bool)}
end
end Go.Proofs.Ytdkgiilmanhpbaa

namespace Go.Proofs.Ytdkgiilmanhpbaa
open Go.RowKit
section
variable {P : Program} {G : Cls} {ro : Option Nat} {ops : Array Oper} {N : Nat} {ds : List Deferred} {fs : List Nat} {Z : Fr → Cls → Prop} {F : Fr} {C : Cls} {rest : List Oper}
variable {d : Nat} {ty : TypeId} {pos : String} {af : Array Edge} {gd : Option (Nat × Bool)}
end
end Go.Proofs.Ytdkgiilmanhpbaa

namespace Go.Proofs.Ytdkgiilmanhpbaa
open Go.RowKit
section
variable {P : Program} {G : Cls} {ro : Option Nat} {ops : Array Oper} {N : Nat} {ds : List Deferred} {fs : List Nat} {Z : Fr → Cls → Prop} {F : Fr} {C : Cls} {rest : List Oper}
variable {d : Nat} {ty : TypeId} {pos : String} {af : Array Edge} {gd : Option (Nat × Bool)}
end
end Go.Proofs.Ytdkgiilmanhpbaa

namespace Go.Proofs.Ytdkgiilmanhpbaa
open Go.RowKit
/-- What is appended, in both ways: where there is room, where there is none. -/
structure ASrc (P : Program) (t tx e : TypeId) (i : TypeInfo) (z v : Value) (n : Nat) (ys : List Value) (w : World) : Prop where
  room : ∀ (ty : TypeId) (b sLen sCap : Nat), sLen + n ≤ sCap → (∀ j, j < ys.length → (w.cell? ⟨b, 0 + sLen * i.size + j, none⟩).isSome = true) → (∀ j, j < ys.length → w.frozen? ⟨b, 0 + sLen * i.size + j, none⟩ = false) →
    (Builtin.append_ #[t, tx] ty #[.slice (some ⟨b, 0, none⟩) sLen sCap, v]).run P w = .ok (.slice (some ⟨b, 0, none⟩) (sLen + n) sCap) (w.setCells b (0 + sLen * i.size) ys)
  nil : n = 0 → ∀ ty : TypeId, (Builtin.append_ #[t, tx] ty #[.slice none 0 0, v]).run P w = .ok (.slice none 0 0) w
  grow : ∀ (ty : TypeId) (base : Option Addr) (sLen sCap : Nat) (olds : List Value), (Builtin.firstCells i.size sLen (.slice base sLen sCap)).run P w.drew = .ok olds.toArray w.drew → sCap < sLen + n → ((sLen + n : Nat) : Int) ≤ 9223372036854775807 → Builtin.nextslicecap (sLen + n) sCap * i.bytes ≤ 281474976710656 →
    (Builtin.append_ #[t, tx] ty #[.slice base sLen sCap, v]).run P w = .ok (.slice (some ⟨w.heap.size, 0, none⟩) (sLen + n) (grownCap w (sLen + n) sCap e)) (w.drew.alloc (.cells ((olds ++ ys).toArray ++ Builtin.zeroCells z.cells (grownCap w (sLen + n) sCap e - (sLen + n))) e))
  len : ys.length = n * i.size
  one : ∀ u ∈ ys, u.oneCell' = true
theorem ASrc.of {P : Program} {t tx e : TypeId} {i : TypeInfo} {z v : Value} {n : Nat} {ys : List Value} {w : World} (ht : P.underlying t = some (.slice e)) (hi : P.info? e = some i) (hz : i.zero = some z) (hs : Src P i.size tx v n ys w) : ASrc P t tx e i z v n ys w where
  room := fun ty b sLen sCap h hc hf => run_append_room_src w t tx ty e i ht hi b 0 sLen sCap v n ys hs h hc hf
  nil := fun h0 ty => by
    subst h0
    rcases hs.kind with ⟨e', hk⟩ | hk <;> simp [Builtin.append_, run_underlying ht, run_underlying hk, sizeOf, typeInfo, hi, hs.len, hs.cells]
  grow := fun ty base sLen sCap olds hold hg h63 hfit => run_append_grow_src w t tx ty e i z ht hi hz base sLen sCap olds hold v n ys hs hg h63 hfit
  len := hs.newsLen
  one := hs.one
theorem wrap_nat {n : Nat} (h : n ≤ 1000000) : IntKind.i64.wrap (n : Int) = n := wrap_i64 _ (by unfold inI; omega)
theorem hw0 : IntKind.i64.wrap (0 : Int) = 0 := wrap_i64 _ (by unfold inI; omega)
/-- Noughts. -/
theorem ASrc.zeros {P : Program} {t tx e : TypeId} {i : TypeInfo} {z : Value} {n : Nat} {w : World} {kn : IntKind} (ht : P.underlying t = some (.slice e)) (htx : P.underlying tx = some (.int kn)) (hi : P.info? e = some i) (hz : i.zero = some z) (hzs : z.cells.size = i.size) (hsp : 0 < i.size)
    (hz1 : ∀ u ∈ (Builtin.zeroCells z.cells n).toList, u.oneCell' = true) (hn : n ≤ 1000000) (hb : n * i.bytes ≤ 281474976710656) : ASrc P t tx e i z (I (n : Int)) n (Builtin.zeroCells z.cells n).toList w where
  room := fun ty b sLen sCap h hc hf => by
    have hw := wrap_nat hn
    have hneg : ¬ ((n : Int) < 0) := by omega
    have h48 : ¬ (281474976710656 < (n : Int) * (i.bytes : Int)) := by rw [← Int.natCast_mul]; omega
    have hst := run_storeCells_cells (P := P) b (0 + sLen * i.size) (Builtin.zeroCells z.cells n).toList 0 w (by simpa using hc) (by simpa using hf) hz1
    simp only [Nat.add_zero, Nat.zero_add] at hst
    by_cases h0 : n = 0
    · subst h0
      have he : Builtin.zeroCells z.cells 0 = #[] := by simp [Builtin.zeroCells]
      have h' : sLen ≤ sCap := by omega
      rw [he] at hst ⊢
      simp [Builtin.append_, run_underlying ht, run_underlying htx, sizeOf, typeInfo, hi, asInt, asIntOf, I, hw0, h', Addr.add_lit] at hst ⊢
      rw [hst]; rfl
    · have hns : ¬ n * i.size = 0 := by rw [Nat.mul_eq_zero]; omega
      simp [Builtin.append_, run_underlying ht, run_underlying htx, sizeOf, typeInfo, zeroValue, hi, hz, asInt, asIntOf, I, hw, hneg, h48, h, hns, Addr.add_lit, hst]
  nil := fun h0 ty => by
    subst h0
    simp [Builtin.append_, run_underlying ht, run_underlying htx, sizeOf, typeInfo, hi, asInt, asIntOf, I, hw0]
  grow := fun ty base sLen sCap olds hold hg h63 hfit => by
    have hw := wrap_nat hn
    have hneg : ¬ ((n : Int) < 0) := by omega
    have h48 : ¬ (281474976710656 < (n : Int) * (i.bytes : Int)) := by rw [← Int.natCast_mul]; omega
    have hnr : ¬ (sLen + n ≤ sCap) := by omega
    have h63' : ¬ (9223372036854775807 < ((sLen : Int) + (n : Int))) := by omega
    have h48' : ¬ (281474976710656 < Builtin.nextslicecap (sLen + n) sCap * i.bytes) := by omega
    by_cases h0 : n = 0
    · subst h0
      have he : Builtin.zeroCells z.cells 0 = #[] := by simp [Builtin.zeroCells]
      have hnr' : ¬ (sLen ≤ sCap) := by omega
      have h63n : ¬ (9223372036854775807 < (sLen : Int)) := by omega
      rw [Nat.add_zero] at h48' ⊢
      simp [Builtin.append_, run_underlying ht, run_underlying htx, sizeOf, typeInfo, zeroValue, hi, hz, asInt, asIntOf, I, hw0, hnr', h63n, h48', Question.forced, hold, newRow, grownCap, he]
    · have hns : ¬ n * i.size = 0 := by rw [Nat.mul_eq_zero]; omega
      simp [Builtin.append_, run_underlying ht, run_underlying htx, sizeOf, typeInfo, zeroValue, hi, hz, asInt, asIntOf, I, hw, hneg, h48, hnr, h63', h48', hns, Question.forced, hold, newRow, grownCap]
      congr 2
      apply Array.ext'
      simp [List.append_assoc]
  len := by rw [Array.length_toList, size_zeroCells, hzs]
  one := hz1
section
variable {P : Program} {G : Cls} {ro : Option Nat} {ops : Array Oper} {N : Nat} {ds : List Deferred} {fs : List Nat} {Z : Fr → Cls → Prop} {F : Fr} {C : Cls} {rest : List Oper}
variable {d : Nat} {ty : TypeId} {pos : String} {af : Array Edge} {gd : Option (Nat × Bool)}
end
end Go.Proofs.Ytdkgiilmanhpbaa

namespace Go.Proofs.Ytdkgiilmanhpbaa
open Go.RowKit
section
variable {P : Program} {G : Cls} {ro : Option Nat} {ops : Array Oper} {N : Nat} {ds : List Deferred} {fs : List Nat} {Z : Fr → Cls → Prop} {F : Fr} {rest : List Oper}
variable {d : Nat} {ty : TypeId} {pos : String} {af : Array Edge} {gd : Option (Nat × Bool)} {B : Bs} {L : Hl}
end
/-! ### How many bits a number has -/
end Go.Proofs.Ytdkgiilmanhpbaa

namespace Go.Proofs.Ytdkgiilmanhpbaa
open Go.RowKit
section
variable {P : Program} {G : Cls} {ro : Option Nat} {ops : Array Oper} {N : Nat} {ds : List Deferred} {fs : List Nat} {Z : Fr → Cls → Prop} {F : Fr} {C : Cls} {rest : List Oper}
variable {d : Nat} {ty : TypeId} {pos : String} {af : Array Edge} {gd : Option (Nat × Bool)}
end
end Go.Proofs.Ytdkgiilmanhpbaa

namespace Go.Proofs.Ytdkgiilmanhpbaa
open Go.RowKit
section
variable {P : Program} {G : Cls} {ro : Option Nat} {ops : Array Oper} {N : Nat} {ds : List Deferred} {fs : List Nat} {Z : Fr → Cls → Prop} {F : Fr} {C : Cls} {rest : List Oper}
variable {d : Nat} {ty : TypeId} {pos : String} {af : Array Edge} {gd : Option (Nat × Bool)}
end
section
variable {P : Program} {F : Fr} {C : Cls}
end
end Go.Proofs.Ytdkgiilmanhpbaa

namespace Go.Proofs.Ytdkgiilmanhpbaa
open Go.RowKit
section
variable {P : Program} {G : Cls} {ro : Option Nat} {ops : Array Oper} {N : Nat} {ds : List Deferred} {fs : List Nat} {Z : Fr → Cls → Prop} {F : Fr} {C : Cls} {rest : List Oper}
variable {d : Nat} {ty : TypeId} {pos : String} {af : Array Edge} {gd : Option (Nat × Bool)} {B : Bs} {L : Hl}
end
end Go.Proofs.Ytdkgiilmanhpbaa
