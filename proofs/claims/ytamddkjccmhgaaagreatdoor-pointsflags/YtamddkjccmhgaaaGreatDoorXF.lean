/-
  The reference's Decode.
  The reference's Encode.
  The document's decoding as a relation of bytes, an answer's number and a point; the reference's Decode answers so.
  Points as bytes: what is written is read, and what is read is written so. Nothing here names a program.
  Points as bytes, both groups: what is written is read, and what is read is written so. Nothing here names a program.
  Helps of the laws: bytes held against one another, copies; the reference's Encode of a point.
-/
import Derived.Test.YtamddkjccmhgaaaGreatDoorXE
import Derived.Test.YtamddkjccmhgaaaGreatDoorX2
import Derived.Test.YtamddkjccmhgaaaGreatDoorX3
namespace Go.Proofs.YtamddkjccmhgaaaGreatDoor
open Go.RowKit
set_option maxRecDepth 100000
set_option maxHeartbeats 1000000
attribute [local simp] fe_len nm_len AS_len SS_len MONT_len RM_len FRs_len BYs_len by48_len PLl TWOl ONEl N1l IVPl HFPl RTPl FL_len SP_len fe2_len SP2_len FM_len J1.GL_len J2.GL_len

theorem ti5 : TI Tryz.prog 5 (.int .u8 0) 1 1 := ti_mk (by kernel_rfl)
/-- The flags; the bytes without them. -/
def FG (bs : List (BitVec 8)) : BitVec 8 := bs.getD 0 0 &&& 224#8
def MK (bs : List (BitVec 8)) : List (BitVec 8) := bs.set 0 (bs.getD 0 0 &&& 31#8)
theorem MK_len (bs : List (BitVec 8)) : (MK bs).length = bs.length := by simp [MK]
attribute [local simp] MK_len
theorem bytes_pre {w : World} {b : Nat} {c : List Value} {xs : List (BitVec 8)} (h : w.rangeAt b 0 c) (ht : c.take xs.length = xs.map U8) : BytesAt w (some ⟨b, 0, none⟩) xs := J2.bytes_pre h ht
/-- With the flag of the infinite point: what is answered. -/
def INF (bs : List (BitVec 8)) (n : Nat) : Int := if (∀ j, j < n → (MK bs).getD j 0 = 0#8) ∧ FG bs &&& 32#8 = 0#8 then 0 else 101
def LO (bs : List (BitVec 8)) (l : Nat) : List (BitVec 8) := ((MK bs).drop l).take 48
theorem LO_len {bs : List (BitVec 8)} {l : Nat} (h : l + 48 ≤ bs.length) : (LO bs l).length = 48 := by
  rw [LO, List.length_take, List.length_drop, MK_len]; omega
end Go.Proofs.YtamddkjccmhgaaaGreatDoor

namespace Go.Proofs.YtamddkjccmhgaaaGreatDoor
open Go.RowKit
set_option maxRecDepth 100000
set_option maxHeartbeats 1000000
attribute [local simp] fe_len nm_len AS_len SS_len MONT_len RM_len FRs_len BYs_len by48_len PLl TWOl ONEl N1l IVPl HFPl RTPl FL_len SP_len fe2_len SP2_len FM_len J1.GL_len J2.GL_len MK_len

def OR0 (bs : List (BitVec 8)) (v : BitVec 8) : List (BitVec 8) := bs.set 0 (bs.getD 0 0 ||| v)
theorem OR0_len (bs : List (BitVec 8)) (v : BitVec 8) : (OR0 bs v).length = bs.length := by simp [OR0]
attribute [local simp] OR0_len
theorem lay96a (x : Zp) : lay 0 ((by48 x).map U8) ((List.replicate 96 0#8).map U8) = (by48 x ++ List.replicate 48 0#8).map U8 := by
  have h := lay_pad (by48 x) 96 (by simp)
  rw [by48_len] at h
  exact h
theorem lay96b (x y : Zp) : lay 48 ((by48 y).map U8) ((by48 x ++ List.replicate 48 0#8).map U8) = (by48 x ++ by48 y).map U8 := by
  rw [lay_eq 48 _ _ (by simp)]
  rw [List.map_append, List.map_append]
  have e1 : ((by48 x).map U8 ++ (List.replicate 48 0#8).map U8).take 48 = (by48 x).map U8 := List.take_left' (by simp)
  have e2 : ((by48 x).map U8 ++ (List.replicate 48 0#8).map U8).drop (48 + ((by48 y).map U8).length) = [] := List.drop_eq_nil_of_le (by simp)
  rw [e1, e2, List.append_nil]
theorem sz5 : (Tryz.prog.info? 5).map (·.size) = some 1 := by kernel_rfl
end Go.Proofs.YtamddkjccmhgaaaGreatDoor

namespace Go.Proofs.YtamddkjccmhgaaaGreatDoor
open Go.RowKit
set_option maxRecDepth 100000
set_option maxHeartbeats 1000000
attribute [local simp] fe_len nm_len AS_len SS_len MONT_len RM_len FRs_len BYs_len by48_len PLl TWOl ONEl N1l IVPl HFPl RTPl FL_len SP_len fe2_len SP2_len FM_len J1.GL_len J2.GL_len MK_len OR0_len

def X1 (bs : List (BitVec 8)) : Zp := zp (BN (LO bs 0) 48)
def X2 (bs : List (BitVec 8)) : W2 := (zp (BN (LO bs 48) 48), zp (BN (LO bs 0) 48))
/-- Is a large y asked for? -/
def LB (bs : List (BitVec 8)) : Bool := FG bs &&& 32#8 != 0#8
/-- Of an x and a y that is asked for. -/
def NY {α : Type} (z : α) (inG : Option (α × α) → Prop) (l : Bool) (x y : α) (c : Int) (P : Option (α × α)) : Prop :=
  ((l = true ∧ y = z) ∧ c = 103 ∧ P = none) ∨ (¬ (l = true ∧ y = z) ∧ ((¬ inG (some (x, y)) ∧ c = 104 ∧ P = none) ∨ (inG (some (x, y)) ∧ c = 0 ∧ P = some (x, y))))
/-- Of the flags. -/
def FLG (bs : List (BitVec 8)) (n : Nat) {α : Type} (c : Int) (P : Option α) (R : Prop) : Prop :=
  (¬ bs.length = n ∧ c = 100 ∧ P = none) ∨ (bs.length = n ∧ ((FG bs &&& 128#8 = 0#8 ∧ c = 101 ∧ P = none) ∨ (¬ FG bs &&& 128#8 = 0#8 ∧ ((¬ FG bs &&& 64#8 = 0#8 ∧ c = INF bs n ∧ P = none) ∨ (FG bs &&& 64#8 = 0#8 ∧ R)))))
/-- The first group's decoding. -/
def D1 (bs : List (BitVec 8)) (c : Int) (P : Pt Zp) : Prop := FLG bs 48 c P ((¬ BN (LO bs 0) 48 < PP ∧ c = 102 ∧ P = none) ∨ (BN (LO bs 0) 48 < PP ∧
  ((¬ J1.LQ (X1 bs) ∧ c = 103 ∧ P = none) ∨ (J1.LQ (X1 bs) ∧ NY 0 (fun Q => E1.times Q ORD = none) (LB bs) (X1 bs) (J1.LY (X1 bs) (LB bs)) c P))))
/-- The second group's. -/
def D2 (bs : List (BitVec 8)) (c : Int) (P : Pt W2) : Prop := FLG bs 96 c P ((¬ (BN (LO bs 48) 48 < PP ∧ BN (LO bs 0) 48 < PP) ∧ c = 102 ∧ P = none) ∨ ((BN (LO bs 48) 48 < PP ∧ BN (LO bs 0) 48 < PP) ∧
  ((¬ J2.LQ (X2 bs) ∧ c = 103 ∧ P = none) ∨ (∃ r, ml2 r r = J2.RS4 (X2 bs) ∧ LG2 r = false ∧ NY ze2 (fun Q => E2w.times Q ORD = none) (LB bs) (X2 bs) (J2.sgY r (LB bs)) c P))))
theorem yz1 {y : Zp} : ((y, 0) : W2) = ze2 ↔ y = 0 := ⟨fun h => congrArg Prod.fst h, fun h => by rw [h]; rfl⟩
end Go.Proofs.YtamddkjccmhgaaaGreatDoor

namespace Go.Proofs.YtamddkjccmhgaaaGreatDoor
set_option maxRecDepth 100000
theorem bv_a : ∀ b : BitVec 8, b &&& 224#8 = 0#8 → (b ||| 128#8) &&& 31#8 = b ∧ ((b ||| 128#8) ||| 32#8) &&& 31#8 = b ∧ ¬ ((b ||| 128#8) &&& 224#8) &&& 128#8 = 0#8 ∧ ¬ (((b ||| 128#8) ||| 32#8) &&& 224#8) &&& 128#8 = 0#8 ∧ ((b ||| 128#8) &&& 224#8) &&& 64#8 = 0#8 ∧ (((b ||| 128#8) ||| 32#8) &&& 224#8) &&& 64#8 = 0#8 ∧ ((b ||| 128#8) &&& 224#8) &&& 32#8 = 0#8 ∧ ¬ (((b ||| 128#8) ||| 32#8) &&& 224#8) &&& 32#8 = 0#8 := by decide +kernel
/-- With the flags. -/
def ENF (B : List (BitVec 8)) (l : Bool) : List (BitVec 8) := if l = true then OR0 (OR0 B 128#8) 32#8 else OR0 B 128#8
theorem MK_c (b : BitVec 8) (r : List (BitVec 8)) : MK (b :: r) = (b &&& 31#8) :: r := rfl
theorem FG_c (b : BitVec 8) (r : List (BitVec 8)) : FG (b :: r) = b &&& 224#8 := rfl
theorem ENF_t (b : BitVec 8) (r : List (BitVec 8)) : ENF (b :: r) true = ((b ||| 128#8) ||| 32#8) :: r := rfl
theorem ENF_f (b : BitVec 8) (r : List (BitVec 8)) : ENF (b :: r) false = (b ||| 128#8) :: r := rfl
theorem ENF_len (B : List (BitVec 8)) (l : Bool) : (ENF B l).length = B.length := by
  cases l <;> simp [ENF, OR0_len]
structure Top (B : List (BitVec 8)) : Prop where
  ne : 0 < B.length
  lt : B.getD 0 0 &&& 224#8 = 0#8
theorem ENF_all {B : List (BitVec 8)} (h : Top B) (l : Bool) : MK (ENF B l) = B ∧ ¬ FG (ENF B l) &&& 128#8 = 0#8 ∧ FG (ENF B l) &&& 64#8 = 0#8 ∧ LB (ENF B l) = l := by
  cases B with
  | nil => exact absurd h.ne (by decide)
  | cons b r =>
    obtain ⟨h1, h2, h3, h4, h5, h6, h7, h8⟩ := bv_a b h.lt
    cases l with
    | true => exact ⟨by rw [ENF_t, MK_c, h2], by rw [ENF_t, FG_c]; exact h4, by rw [ENF_t, FG_c]; exact h6, by rw [LB, ENF_t, FG_c]; exact bne_iff_ne.2 h8⟩
    | false => exact ⟨by rw [ENF_f, MK_c, h1], by rw [ENF_f, FG_c]; exact h3, by rw [ENF_f, FG_c]; exact h5, by rw [LB, ENF_f, FG_c]; exact bne_eq_false_iff_eq.2 h7⟩
/-! ### Numbers below p have noughts there -/
theorem BN_top (bs : List (BitVec 8)) : ∀ n, (bs.getD 0 0).toNat * 256 ^ n ≤ BN bs (n + 1)
  | 0 => by rw [BN, BN]; omega
  | n + 1 => by
    have := BN_top bs n
    rw [BN, Nat.pow_succ]
    generalize 256 ^ n = p at *
    generalize BN bs (n + 1) = q at *
    generalize (bs.getD 0 0).toNat = t at *
    have : t * (p * 256) = t * p * 256 := by rw [Nat.mul_assoc]
    omega
theorem PP_top : PP < 32 * 256 ^ 47 := by decide +kernel
theorem bv_t : ∀ b : BitVec 8, b.toNat < 32 → b &&& 224#8 = 0#8 := by decide +kernel
theorem top_of {bs : List (BitVec 8)} (h : bs.length = 48) (hl : BN bs 48 < PP) : Top bs := by
  refine ⟨by omega, bv_t _ ?_⟩
  have h1 := BN_top bs 47
  have h2 := PP_top
  generalize (bs.getD 0 0).toNat = t at *
  have h3 : t * 256 ^ 47 < 32 * 256 ^ 47 := Nat.lt_of_le_of_lt h1 (Nat.lt_trans hl h2)
  exact Nat.lt_of_mul_lt_mul_right h3
theorem by48_lt (x : Zp) : BN (by48 x) 48 < PP := by rw [BN_by48]; exact x.isLt
theorem by48_top (x : Zp) : Top (by48 x) := top_of (by48_len x) (by48_lt x)
theorem zp_by48 (x : Zp) : zp (BN (by48 x) 48) = x := by
  rw [BN_by48]; exact zp_of x
end Go.Proofs.YtamddkjccmhgaaaGreatDoor

namespace Go.Proofs.YtamddkjccmhgaaaGreatDoor
set_option maxRecDepth 100000
def EN1 : Pt Zp → List (BitVec 8)
  | none => (List.replicate 48 0#8).set 0 192#8
  | some p => ENF (by48 p.1) (LG2 (p.2, 0))
def EN2 : Pt W2 → List (BitVec 8)
  | none => (List.replicate 96 0#8).set 0 192#8
  | some p => ENF (by48 p.1.2 ++ by48 p.1.1) (LG2 p.2)
theorem EN1_s (x y : Zp) : EN1 (some (x, y)) = ENF (by48 x) (LG2 (y, 0)) := rfl
theorem ng_re (y : Zp) : ng2 (y, 0) = (-y, 0) := w2_ext rfl (by show -(0 : Zp) = 0; exact z_n0')
theorem LG_negr {y : Zp} (h : y ≠ 0) : LG2 (-y, 0) = !LG2 (y, 0) := by
  rw [← ng_re]; exact LG2_neg (fun e => h (yz1.1 e))
/-! ### Roots -/
theorem LQ_of {x y : Zp} (h : y * y = J1.RS4 x) : J1.LQ x := by
  show SQr (J1.RS4 x) * SQr (J1.RS4 x) = J1.RS4 x
  rw [← h]; exact sq_has y
theorem LY_of {x y : Zp} (h : y * y = J1.RS4 x) : J1.LY x (LG2 (y, 0)) = y := by
  have hq := LQ_of h
  have s := SQ_of y
  have sm : LG2 (SQ (J1.RS4 x), 0) = false := LG_re (SQ_small hq)
  rw [h] at s
  cases hl : LG2 (y, 0) with
  | false =>
    rw [J1.LY_f hq]
    generalize SQ (J1.RS4 x) = t at *
    rcases s with e | e
    · exact e
    · by_cases h0 : y = 0
      · rw [e, h0]; exact z_n0'
      · rw [e, LG_negr h0, hl] at sm; cases sm
  | true =>
    rw [J1.LY_t hq]
    generalize SQ (J1.RS4 x) = t at *
    rcases s with e | e
    · rw [e, hl] at sm; cases sm
    · rw [e]; exact J1.neg_neg0 y
theorem sg_of {x y : W2} (h : ml2 y y = J2.RS4 x) : ∃ r, ml2 r r = J2.RS4 x ∧ LG2 r = false ∧ J2.sgY r (LG2 y) = y := by
  cases hl : LG2 y with
  | false => exact ⟨y, h, hl, rfl⟩
  | true =>
    have h0 : y ≠ ze2 := fun e => by rw [e, LG2_ze] at hl; cases hl
    exact ⟨ng2 y, (J2.ng_sq y).trans h, by rw [LG2_neg h0, hl]; rfl, R2.neg_neg y⟩
/-! ### Written and read -/
theorem LO_1 {bs : List (BitVec 8)} (h : bs.length = 48) : LO bs 0 = MK bs := by
  rw [LO, List.drop_zero]; exact List.take_of_length_le (by rw [MK_len]; omega)
theorem D1_enc {x y : Zp} (on : E1.on (x, y)) {c : Int} {Q : Pt Zp} (h : NY 0 (fun Q => E1.times Q ORD = none) (LG2 (y, 0)) x y c Q) : D1 (EN1 (some (x, y))) c Q := by
  have hy := J1.E1_rs.1 on
  obtain ⟨m, f, s, l⟩ := ENF_all (by48_top x) (LG2 (y, 0))
  have hlen : (EN1 (some (x, y))).length = 48 := (ENF_len _ _).trans (by48_len x)
  have lo : LO (EN1 (some (x, y))) 0 = by48 x := (LO_1 hlen).trans m
  have ex : X1 (EN1 (some (x, y))) = x := by rw [X1, lo, zp_by48]
  refine .inr ⟨hlen, .inr ⟨f, .inr ⟨s, .inr ⟨by rw [lo]; exact by48_lt x, .inr ?_⟩⟩⟩⟩
  rw [ex, show LB (EN1 (some (x, y))) = LG2 (y, 0) from l, LY_of hy]
  exact ⟨LQ_of hy, h⟩
theorem LO_2 {a b : List (BitVec 8)} {bs : List (BitVec 8)} (ha : a.length = 48) (hb : b.length = 48) (h : MK bs = a ++ b) : LO bs 0 = a ∧ LO bs 48 = b := by
  rw [LO, LO, h, List.drop_zero]
  exact ⟨List.take_left' ha, by rw [List.drop_left' ha]; exact List.take_of_length_le (by omega)⟩
theorem top_app {a b : List (BitVec 8)} (h : Top a) : Top (a ++ b) := by
  cases a with
  | nil => exact absurd h.ne (by decide)
  | cons x r => exact ⟨by simp, h.lt⟩
theorem D2_enc {x y : W2} (on : E2w.on (x, y)) {c : Int} {Q : Pt W2} (h : NY ze2 (fun Q => E2w.times Q ORD = none) (LG2 y) x y c Q) : D2 (EN2 (some (x, y))) c Q := by
  have hy := J2.E1_rs.1 on
  obtain ⟨m, f, s, l⟩ := ENF_all (top_app (b := by48 x.1) (by48_top x.2)) (LG2 y)
  have hlen : (EN2 (some (x, y))).length = 96 := (ENF_len _ _).trans (by rw [List.length_append, by48_len, by48_len])
  obtain ⟨l0, l48⟩ := LO_2 (bs := EN2 (some (x, y))) (by48_len x.2) (by48_len x.1) m
  have ex : X2 (EN2 (some (x, y))) = x := by rw [X2, l0, l48, zp_by48, zp_by48]
  obtain ⟨r, hr, hs, e⟩ := sg_of hy
  refine .inr ⟨hlen, .inr ⟨f, .inr ⟨s, .inr ⟨by rw [l0, l48]; exact ⟨by48_lt _, by48_lt _⟩, .inr ⟨r, ?_⟩⟩⟩⟩⟩
  rw [ex, show LB (EN2 (some (x, y))) = LG2 y from l, e]
  exact ⟨hr, hs, h⟩
/-- Of the infinite points. -/
theorem D1_none : D1 (EN1 none) 0 none := .inr ⟨by decide, .inr ⟨by decide, .inl ⟨by decide, by decide +kernel, rfl⟩⟩⟩
theorem D2_none : D2 (EN2 none) 0 none := .inr ⟨by decide, .inr ⟨by decide, .inl ⟨by decide, by decide +kernel, rfl⟩⟩⟩
theorem NY_in {α : Type} {z : α} {inG : Option (α × α) → Prop} {l : Bool} {x y : α} (h : ¬ (l = true ∧ y = z)) (g : inG (some (x, y))) : NY z inG l x y 0 (some (x, y)) := .inr ⟨h, .inr ⟨g, rfl, rfl⟩⟩
theorem NY_out {α : Type} {z : α} {inG : Option (α × α) → Prop} {l : Bool} {x y : α} (h : ¬ (l = true ∧ y = z)) (g : ¬ inG (some (x, y))) : NY z inG l x y 104 none := .inr ⟨h, .inl ⟨g, rfl, rfl⟩⟩
theorem lg_nz1 {y : Zp} : ¬ (LG2 (y, 0) = true ∧ y = 0) := fun ⟨h, e⟩ => by
  rw [e, show ((0, 0) : W2) = ze2 from rfl, LG2_ze] at h; cases h
theorem lg_nz2 {y : W2} : ¬ (LG2 y = true ∧ y = ze2) := fun ⟨h, e⟩ => by
  rw [e, LG2_ze] at h; cases h
/-- Points of the groups are read back; others are refused. -/
theorem D1_in {P : Pt Zp} (on : E1.onP P) (g : E1.times P ORD = none) : D1 (EN1 P) 0 P := by
  cases P with
  | none => exact D1_none
  | some p => exact D1_enc (x := p.1) (y := p.2) on (NY_in lg_nz1 g)
theorem D1_out {P : Pt Zp} (on : E1.onP P) (g : ¬ E1.times P ORD = none) : D1 (EN1 P) 104 none := by
  cases P with
  | none => exact absurd (E1.times_none ORD) g
  | some p => exact D1_enc (x := p.1) (y := p.2) on (NY_out lg_nz1 g)
theorem D2_in {P : Pt W2} (on : E2w.onP P) (g : E2w.times P ORD = none) : D2 (EN2 P) 0 P := by
  cases P with
  | none => exact D2_none
  | some p => exact D2_enc (x := p.1) (y := p.2) on (NY_in lg_nz2 g)
end Go.Proofs.YtamddkjccmhgaaaGreatDoor

namespace Go.Proofs.YtamddkjccmhgaaaGreatDoor
open Go.RowKit
set_option maxRecDepth 100000
set_option maxHeartbeats 1000000
attribute [local simp] fe_len nm_len AS_len SS_len MONT_len RM_len FRs_len BYs_len by48_len PLl TWOl ONEl N1l IVPl HFPl RTPl FL_len SP_len fe2_len SP2_len FM_len J1.GL_len J2.GL_len MK_len OR0_len

end Go.Proofs.YtamddkjccmhgaaaGreatDoor
