/-
  The document's decoder of updates.
-/
import Derived.Test.YtlaanjcnfindnaaVI
namespace Go.Proofs.Ytlaanjcnfindnaa
open Go.RowKit
set_option maxRecDepth 100000
set_option maxHeartbeats 1000000

/-- An update's cells, part by part. -/
def UC (p0 p1 p2 p3 p4 p5 p6 : List Value) : List Value := p0 ++ (p1 ++ (p2 ++ (p3 ++ (p4 ++ (p5 ++ p6)))))
structure UL (p0 p1 p2 p3 p4 p5 p6 : List Value) : Prop where
  l0 : p0.length = 98
  l1 : p1.length = 49
  l2 : p2.length = 160
  l3 : p3.length = 98
  l4 : p4.length = 192
  l5 : p5.length = 97
  l6 : p6.length = 1
variable {p0 p1 p2 p3 p4 p5 p6 q : List Value}
theorem UL.len (h : UL p0 p1 p2 p3 p4 p5 p6) : (UC p0 p1 p2 p3 p4 p5 p6).length = 695 := by simp [UC, h.l0, h.l1, h.l2, h.l3, h.l4, h.l5, h.l6]
theorem lay_mV {pre old post vs : List Value} {o : Nat} (ho : pre.length = o) (hv : vs.length = old.length) : lay o vs (pre ++ (old ++ post)) = pre ++ (vs ++ post) := by
  rw [lay_eq _ _ _ (by simp; omega), List.take_left' ho, hv, ← List.append_assoc pre old, List.drop_left' (by simp [ho]), List.append_assoc]
theorem UC_1 (h : UL p0 p1 p2 p3 p4 p5 p6) (hq : q.length = 49) : lay 98 q (UC p0 p1 p2 p3 p4 p5 p6) = UC p0 q p2 p3 p4 p5 p6 := lay_mV h.l0 (by rw [hq, h.l1])
theorem UC_3 (h : UL p0 p1 p2 p3 p4 p5 p6) (hq : q.length = 98) : lay 307 q (UC p0 p1 p2 p3 p4 p5 p6) = UC p0 p1 p2 q p4 p5 p6 := by
  have := lay_mV (pre := p0 ++ (p1 ++ p2)) (old := p3) (post := p4 ++ (p5 ++ p6)) (vs := q) (o := 307) (by simp [h.l0, h.l1, h.l2]) (by rw [hq, h.l3])
  simpa [UC] using this
theorem UC_5 (h : UL p0 p1 p2 p3 p4 p5 p6) (hq : q.length = 97) : lay 597 q (UC p0 p1 p2 p3 p4 p5 p6) = UC p0 p1 p2 p3 p4 q p6 := by
  have := lay_mV (pre := p0 ++ (p1 ++ (p2 ++ (p3 ++ p4)))) (old := p5) (post := p6) (vs := q) (o := 597) (by simp [h.l0, h.l1, h.l2, h.l3, h.l4]) (by rw [hq, h.l5])
  simpa [UC] using this
theorem UC_6 (h : UL p0 p1 p2 p3 p4 p5 p6) (v : Value) : (UC p0 p1 p2 p3 p4 p5 p6).set 694 v = UC p0 p1 p2 p3 p4 p5 [v] := by
  have := lay_mV (pre := p0 ++ (p1 ++ (p2 ++ (p3 ++ (p4 ++ p5))))) (old := p6) (post := []) (vs := [v]) (o := 694) (by simp [h.l0, h.l1, h.l2, h.l3, h.l4, h.l5]) (by rw [h.l6]; rfl)
  simpa [UC, lay] using this
def U0 : List Value := UC Hd0.cs Co0 ((Zs 160).map U8) Hd0.cs ((Zs 192).map U8) Ag0 [U64 0]
theorem U0_ul : UL Hd0.cs Co0 ((Zs 160).map U8) Hd0.cs ((Zs 192).map U8) Ag0 [U64 0] := ⟨by decide, by decide, by decide, by decide, by decide, by decide, by decide⟩
theorem U0_len : U0.length = 695 := U0_ul.len
theorem zvU (w : World) : (zeroValue 40).run Try.prog w = .ok (.agg U0.toArray) w := (Try.zeroValue40 w).trans (by rfl)
theorem bldU0 (w : World) : (Instr.build 40 #[]).run Try.prog w = .ok (.agg U0.toArray) w := run_buildP (c := U0) (ps := #[(0, 98), (98, 49), (147, 160), (307, 98), (405, 192), (597, 97), (694, 1)]) zvU Try.underlying40 (fun w => by simp [Try.sizeOf26, Try.sizeOf31, Try.sizeOf32, Try.sizeOf33, Try.sizeOf38, Try.sizeOf22]) [] rfl w
theorem UC_one (h0 : p0.all (·.oneCell') = true) (h1 : p1.all (·.oneCell') = true) (h2 : p2.all (·.oneCell') = true) (h3 : p3.all (·.oneCell') = true) (h4 : p4.all (·.oneCell') = true) (h5 : p5.all (·.oneCell') = true) (h6 : p6.all (·.oneCell') = true) : (UC p0 p1 p2 p3 p4 p5 p6).all (·.oneCell') = true := by
  unfold UC
  rw [List.all_append, List.all_append, List.all_append, List.all_append, List.all_append, List.all_append, h0, h1, h2, h3, h4, h5, h6]; rfl
end Go.Proofs.Ytlaanjcnfindnaa
