/-
 The walks of package fp: elements of p.
 The walks of package fp: powers.
 The walks of package fp: powers, inverses, roots, signs.
 The walks of package fp: inverses, roots, signs, bytes.
-/
import Derived.Test.YtpnpiblphnpfiaaGreatDoorX7
import Derived.Test.YtpnpiblphnpfiaaGreatDoorX3
import Derived.Test.YtpnpiblphnpfiaaGreatDoorX6
import Derived.Test.YtpnpiblphnpfiaaGreatDoorX5
set_option maxRecDepth 100000
set_option maxHeartbeats 1000000
namespace Go.Proofs.YtpnpiblphnpfiaaGreatDoor
section
open Go.RowKit
theorem PLl : PL.length = 6 := rfl
theorem cy : TWO.length = 6 := rfl
theorem cx : ONE.length = 6 := rfl
theorem N1l : N1.length = 6 := rfl
theorem cv : IVP.length = 6 := rfl
theorem cw : HFP.length = 6 := rfl
theorem cz : RTP.length = 6 := rfl
attribute [local simp] aZ bk aF aA aN aW aL aK aR PLl cy cx N1l cv cw cz
theorem rC1 {Q P : Prop} (k : Q) (h : Q → P := by intro k; (refine LY.run ?_); (repeat (first | refine bC rfl rfl rfl ?_ | refine bc rfl rfl rfl ?_ | ((refine yh rfl rfl ?_ rfl rfl rfl rfl ?_); (· simp)) | ((refine Hh rfl rfl ?_ rfl rfl ?_); (· simp)) | ((refine nr rfl rfl ?_ rfl rfl ?_); (· simp)) | ((refine og hGF rfl rfl rfl ?_ ?_ (ak _) rfl ?_); (· simp); (· simp)) | ((refine Fx hGF rfl rfl rfl ?_ ?_ (ak _) rfl ?_); (· simp); (· simp)) | ((refine Aq hGF rfl rfl rfl ?_ ?_ (gW _) rfl ?_); (· simp); (· simp)) | refine d5 rfl rfl rfl rfl ?_)); (first | refine bV ?_ | refine LY.mk ?_); exact k) : P := h k
theorem pC1 {Q P : Prop} (k : Q) (h : Q → P := by intro k; (refine xp ?_); (refine rC1 ?_); exact k) : P := h k
abbrev EV (x : Zp) : Value := .agg ((fe x).map U64).toArray
abbrev NV (n : List (BitVec 64)) : Value := .agg (n.map U64).toArray
theorem zv27 (w : World) : (zeroValue 27).run Tryz.prog w = .ok (.agg ((List.replicate 6 (0#64)).map U64).toArray) w := (Tryz.zeroValue27 w).trans (by rfl)
theorem zR (op : BinOp) (x y : Operand) (xs ys : Array Value) (w : World) : (eqGuard op 25 x y (.agg xs) (.agg ys)).run Tryz.prog w = .ok () w := run_eqGuard_agg w op 25 x y xs ys (by kernel_rfl)
theorem zO (xs ys : List (BitVec 64)) (h : xs.length = 6) (h' : ys.length = 6) (w : World) : (binOp .eql 25 (.agg (xs.map U64).toArray) (.agg (ys.map U64).toArray)).run Tryz.prog w = .ok (.bool (decide (xs = ys))) w := lf Tryz.underlying25 Tryz.underlying24 Tryz.sizeOf24 Tryz.isAgg24 xs ys h h' w
theorem iS (x y : Zp) : decide (fe x = fe y) = decide (x = y) := decide_eq_decide.2 pY
theorem z5 {x y : BitVec 64} (h : (x == y) = true) : x = y := beq_iff_eq.1 h
theorem An {x y : BitVec 64} (h : (x == y) = false) : ¬ x = y := beq_eq_false_iff_ne.1 h
theorem ent104 : ac Tryz.prog 104 := fun _ _ => by kernel_rfl
theorem ent46 : ac Tryz.prog 46 := fun _ _ => by kernel_rfl
theorem ent23 : ac Tryz.prog 23 := fun _ _ => by kernel_rfl
theorem ent125 : ac Tryz.prog 125 := fun _ _ => by kernel_rfl
theorem ent188 : ac Tryz.prog 188 := fun _ _ => by kernel_rfl
theorem ent88 : ac Tryz.prog 88 := fun _ _ => by kernel_rfl
theorem ent65 : ac Tryz.prog 65 := fun _ _ => by kernel_rfl
theorem ent168 : ac Tryz.prog 168 := fun _ _ => by kernel_rfl
theorem ent64 : ac Tryz.prog 64 := fun _ _ => by kernel_rfl
theorem ent87 : ac Tryz.prog 87 := fun _ _ => by kernel_rfl
theorem ent100 : ac Tryz.prog 100 := fun _ _ => by kernel_rfl
theorem ent63 : ac Tryz.prog 63 := fun _ _ => by kernel_rfl
theorem ent86 : ac Tryz.prog 86 := fun _ _ => by kernel_rfl
theorem ent123 : ac Tryz.prog 123 := fun _ _ => by kernel_rfl
theorem ent192 : ac Tryz.prog 192 := fun _ _ => by kernel_rfl
theorem ent167 : ac Tryz.prog 167 := fun _ _ => by kernel_rfl
theorem ent202 : ac Tryz.prog 202 := fun _ _ => by kernel_rfl
theorem ent203 : ac Tryz.prog 203 := fun _ _ => by kernel_rfl
theorem fj (x y : Zp) : Pure Tryz.prog Gt 63 [EV x, EV y] (EV (x * y)) := by
 refine aU Tryz.func63 fun w hw hGF => ?_
 refine xp ?_
 refine lb fun b2 => ?_
 refine lb fun b3 => ?_
 refine la zv27 fun b4 => ?_
 refine aa ?_
 refine pC1 ?_
 refine g7 hGF Tryz.isAgg25 Tryz.sizeOf25 (by simp) (fun _ h => h.g3) rfl rfl ?_
 refine aG rfl rfl ent77 (iT _ _ _ (by simp) (by simp) (by simp)) rfl rfl ?_
 refine bN rfl (by simp) Tryz.underlying27 rfl Tryz.sizeOf25 zv27 rfl rfl ?_
 refine rC1 ?_
 refine rt ?_
 exact aw 4 rfl rfl rfl Tryz.isAgg27 Tryz.sizeOf27 (by simp) (fun w hw => ⟨by rw [yM], ah hw⟩)
theorem gQ (n : List (BitVec 64)) (hn : n.length = 6) : Pure Tryz.prog Gt 65 [NV n] (EV (zp (V n 6))) := by
 refine aU Tryz.func65 fun w hw hGF => ?_
 refine xp ?_
 refine lb fun b1 => ?_
 refine la zv27 fun b2 => ?_
 refine aa ?_
 refine xp ?_
 refine g7 hGF Tryz.isAgg25 Tryz.sizeOf25 (by first | (simp; done) | simp [hn]) (fun _ h => h.g0) rfl rfl ?_
 refine am 1 rfl rfl Tryz.isAgg25 Tryz.sizeOf25 (by first | (simp; done) | simp [hn]) rfl rfl ?_
 refine g7 hGF Tryz.isAgg25 Tryz.sizeOf25 (by first | (simp; done) | simp [hn]) (fun _ h => h.g3) rfl rfl ?_
 refine aG rfl rfl ent77 (iT _ _ _ (by first | (simp; done) | simp [hn]) (by first | (simp; done) | simp [hn]) (by first | (simp; done) | simp [hn])) rfl rfl ?_
 refine bN rfl (by first | (simp; done) | simp [hn]) Tryz.underlying27 rfl Tryz.sizeOf25 zv27 rfl rfl ?_
 refine ai 2 hGF rfl rfl rfl Tryz.sizeOf27 (by first | (simp; done) | simp [hn]) (by first | (simp; done) | simp [hn]) (ak _) rfl ?_
 refine aa ?_
 refine rt ?_
 exact aw 2 rfl rfl rfl Tryz.isAgg27 Tryz.sizeOf27 (by first | (simp; done) | simp [hn]) (fun w hw => ⟨by rw [tF], ah hw⟩)
theorem mw (x : Zp) : Pure Tryz.prog Gt 168 [EV x] (NV (nm x)) := by
 refine aU Tryz.func168 fun w hw hGF => ?_
 refine xp ?_
 refine lb fun b1 => ?_
 refine la zv25 fun b2 => ?_
 refine aa ?_
 refine pC1 ?_
 refine gu 1 rfl Tryz.underlying25 Tryz.sizeOf24 zv25 rfl rfl ?_
 refine g7 hGF Tryz.isAgg25 Tryz.sizeOf25 (by simp) (fun _ h => h.g3) rfl rfl ?_
 refine aG rfl rfl ent77 (iT _ _ _ (by simp) (by simp) (by simp)) rfl rfl ?_
 refine rC1 ?_
 refine rt ?_
 exact aw 2 rfl rfl rfl Tryz.isAgg25 Tryz.sizeOf25 (by simp) (fun w hw => ⟨by rw [← wU]; rfl, ah hw⟩)
theorem sm (n : BitVec 64) : ∀ k, V (n :: List.replicate 5 0) (k + 1) = n.toNat
 | 0 => by rw [pi, V, Nat.mul_zero, Nat.pow_zero, Nat.mul_one, Nat.zero_add]; rfl
 | k + 1 => by
  have h0 : (n :: List.replicate 5 (0 : BitVec 64)).getD (k + 1) 0 = 0 := by
   rw [List.getD_eq_getElem?_getD, List.getElem?_cons_succ, List.getElem?_replicate]
   split <;> rfl
  rw [pi, sm n k, h0, show (0 : BitVec 64).toNat = 0 from rfl, Nat.zero_mul, Nat.add_zero]
theorem nc (n : BitVec 64) : V (n :: List.replicate 5 0) 6 = n.toNat := sm n 5
theorem ot (n : BitVec 64) : Pure Tryz.prog Gt 104 [U64 n] (EV (zp n.toNat)) := by
 refine aU Tryz.func104 fun w hw hGF => ?_
 refine xp ?_
 refine la zv27 fun b2 => ?_
 refine aa ?_
 refine pC1 ?_
 refine gu n rfl Tryz.underlying25 Tryz.sizeOf24 zv25 rfl rfl ?_
 refine aG rfl rfl ent65 (gQ _ (by simp)) rfl rfl ?_
 refine rC1 ?_
 refine rt ?_
 exact aw 2 rfl rfl rfl Tryz.isAgg27 Tryz.sizeOf27 (by simp) (fun w hw => ⟨by rw [nc], ah hw⟩)
theorem nu (x y : Zp) : Pure Tryz.prog Gt 188 [EV x, EV y] (.bool (decide (x = y))) := by
 refine aU Tryz.func188 fun w hw hGF => ?_
 refine xp ?_
 refine lb fun b2 => ?_
 refine lb fun b3 => ?_
 refine rC1 ?_
 refine pC1 ?_
 refine ab rfl rfl (fun _ => zR _ _ _ _ _ _) (fun w => zO _ _ (by simp) (by simp) w) rfl rfl ?_
 refine rC1 ?_
 refine rt ?_
 exact bj rfl rfl (fun w hw => ⟨by rw [iS], ah hw⟩)
theorem na (x : Zp) : Pure Tryz.prog Gt 88 [EV x] (.bool (decide (x = 0))) := by
 refine aU Tryz.func88 fun w hw hGF => ?_
 refine xp ?_
 refine lb fun b1 => ?_
 refine rC1 ?_
 refine pC1 ?_
 refine gw zv25 Tryz.underlying25 Tryz.sizeOf24 rfl rfl ?_
 refine ab rfl rfl (fun _ => zR _ _ _ _ _ _) (fun w => zO _ _ (by simp) (by simp) w) rfl rfl ?_
 refine rC1 ?_
 refine rt ?_
 exact bj rfl rfl (fun w hw => ⟨by rw [← h9, iS], ah hw⟩)
theorem lN (x y : Zp) : Pure Tryz.prog Gt 64 [EV x, EV y] (EV (x + y)) := by
 refine aU Tryz.func64 fun w hw hGF => ?_
 refine xp ?_
 refine lb fun b2 => ?_
 refine lb fun b3 => ?_
 refine la zv27 fun b4 => ?_
 refine aa ?_
 refine pC1 ?_
 refine aG rfl rfl ent94 (kq _ _ (by simp) (by simp)) rfl rfl ?_
 refine rC1 ?_
 refine la zv25 fun b5 => ?_
 refine rC1 ?_
 refine pC1 ?_
 refine g7 hGF Tryz.isAgg25 Tryz.sizeOf25 (by simp) (fun _ h => h.g3) rfl rfl ?_
 refine aG rfl rfl ent95 (ge _ _ (by simp) (by simp)) rfl rfl ?_
 refine rC1 ?_
 refine la zv25 fun b7 => ?_
 refine rC1 ?_
 refine ao ?_
 refine pC1 ?_
 refine ab rfl rfl (fun _ => rfl) (fun _ => bp _ _ _) rfl rfl ?_
 refine aa ?_
 refine bG rfl (fun hc => ?_) (fun hc => ?_)
 ·skip
  refine pC1 ?_
  refine bN rfl (by simp) Tryz.underlying27 rfl Tryz.sizeOf25 zv27 rfl rfl ?_
  refine rC1 ?_
  refine rt ?_
  exact aw 4 rfl rfl rfl Tryz.isAgg27 Tryz.sizeOf27 (by simp) (fun w hw => ⟨by rw [sf (wm (z5 hc))], ah hw⟩)
 ·skip
  refine aE ?_
  refine pC1 ?_
  refine bN rfl (by simp) Tryz.underlying27 rfl Tryz.sizeOf25 zv27 rfl rfl ?_
  refine rC1 ?_
  refine rt ?_
  exact aw 4 rfl rfl rfl Tryz.isAgg27 Tryz.sizeOf27 (by simp) (fun w hw => ⟨by rw [oV (pj (lx _ _ _) (An hc))], ah hw⟩)
theorem iR (x y : Zp) : Pure Tryz.prog Gt 87 [EV x, EV y] (EV (x - y)) := by
 refine aU Tryz.func87 fun w hw hGF => ?_
 refine xp ?_
 refine lb fun b2 => ?_
 refine lb fun b3 => ?_
 refine la zv27 fun b4 => ?_
 refine aa ?_
 refine pC1 ?_
 refine aG rfl rfl ent95 (ge _ _ (by simp) (by simp)) rfl rfl ?_
 refine rC1 ?_
 refine la zv25 fun b5 => ?_
 refine rC1 ?_
 refine ao ?_
 refine pC1 ?_
 refine ab rfl rfl (fun _ => rfl) (fun _ => bp _ _ _) rfl rfl ?_
 refine aa ?_
 refine bG rfl (fun hc => ?_) (fun hc => ?_)
 ·skip
  refine av (E := EE []) ?_
  refine rC1 ?_
  refine g7 hGF Tryz.isAgg25 Tryz.sizeOf25 (by simp) (fun _ h => h.g3) rfl rfl ?_
  refine aG rfl rfl ent94 (kq _ _ (by simp) (by simp)) rfl rfl ?_
  refine rC1 ?_
  refine pC1 ?_
  refine bN rfl (by simp) Tryz.underlying27 rfl Tryz.sizeOf25 zv27 rfl rfl ?_
  refine rC1 ?_
  refine rt ?_
  exact aw 4 rfl rfl rfl Tryz.isAgg27 Tryz.sizeOf27 (by simp) (fun w hw => ⟨by rw [qH (z5 hc)], ah hw⟩)
 ·skip
  refine aE ?_
  refine pC1 ?_
  refine bN rfl (by simp) Tryz.underlying27 rfl Tryz.sizeOf25 zv27 rfl rfl ?_
  refine rC1 ?_
  refine rt ?_
  exact aw 4 rfl rfl rfl Tryz.isAgg27 Tryz.sizeOf27 (by simp) (fun w hw => ⟨by rw [nM (pj (lx _ _ _) (An hc))], ah hw⟩)
theorem lK (x : Zp) : Pure Tryz.prog Gt 100 [EV x] (EV (-x)) := by
 refine aU Tryz.func100 fun w hw hGF => ?_
 refine xp ?_
 refine lb fun b1 => ?_
 refine la zv27 fun b2 => ?_
 refine aa ?_
 refine xp ?_
 refine gB zv27 Tryz.underlying27 (qu Tryz.sizeOf25) rfl rfl ?_
 refine rC1 ?_
 refine aG rfl rfl ent87 ((show Pure Tryz.prog Gt 87 [NV (List.replicate 6 0#64), EV x] (EV (0 - x)) by rw [← h9]; exact iR 0 x)) rfl rfl ?_
 refine rC1 ?_
 refine rt ?_
 exact aw 2 rfl rfl rfl Tryz.isAgg27 Tryz.sizeOf27 (by simp) (fun w hw => ⟨by rw [show (0 : Zp) - x = -x by grind], ah hw⟩)
theorem ib (x : Zp) : Pure Tryz.prog Gt 86 [EV x] (EV (x * x)) := by
 refine aU Tryz.func86 fun w hw hGF => ?_
 refine xp ?_
 refine lb fun b1 => ?_
 refine la zv27 fun b2 => ?_
 refine aa ?_
 refine pC1 ?_
 refine lc ent63 (fj _ _) ?_
 refine rC1 ?_
 refine rt ?_
 exact aw 2 rfl rfl rfl Tryz.isAgg27 Tryz.sizeOf27 (by simp) (fun w hw => ⟨rfl, ah hw⟩)
theorem nE (x : Zp) : Pure Tryz.prog Gt 125 [EV x] (.agg ((uD x).map U8).toArray) := by
 refine aU Tryz.func125 fun w hw hGF => ?_
 refine xp ?_
 refine lb fun b1 => ?_
 refine la zv115 fun b2 => ?_
 refine aa ?_
 refine pC1 ?_
 refine lc ent168 (mw _) ?_
 refine aG rfl rfl ent80 (ig _ (by simp)) rfl rfl ?_
 refine rC1 ?_
 refine rt ?_
 exact aw 2 rfl rfl rfl Tryz.isAgg115 Tryz.sizeOf115 (by simp) (fun w hw => ⟨rfl, ah hw⟩)
end
section
open Go.RowKit
theorem ent205 : ac Tryz.prog 205 := fun _ _ => by kernel_rfl
attribute [local simp] aZ bk aF aA aN aW aL aK aR PLl cy cx N1l cv cw cz bh bl
theorem rC2 {Q P : Prop} (k : Q) (h : Q → P := by intro k; (refine LY.run ?_); (repeat (first | refine bC rfl rfl rfl ?_ | refine bc rfl rfl rfl ?_ | ((refine nr rfl rfl ?_ rfl rfl ?_); (· simp)) | ((refine He rfl rfl ?_ rfl rfl ?_); (· simp)) | ((refine z4 hGF rfl rfl rfl ?_ ?_ (ak _) rfl ?_); (· simp); (· simp)) | refine iY rfl rfl rfl rfl rfl ?_)); (first | refine bV ?_ | refine LY.mk ?_); exact k) : P := h k
theorem pC2 {Q P : Prop} (k : Q) (h : Q → P := by intro k; (refine xp ?_); (refine rC2 ?_); exact k) : P := h k
theorem zv209 (w : World) : (zeroValue 209).run Tryz.prog w = .ok (.agg ((FL (fun _ => List.replicate 6 0#64) 16).map U64).toArray) w := (Tryz.zeroValue209 w).trans (by rfl)
theorem lT : Pure Tryz.prog Gt 104 [U64 1#64] (EV 1) := ot 1#64
theorem ov (x : Zp) : Pure Tryz.prog Gt 202 [EV x] (.agg ((SP x 16).map U64).toArray) := by
 refine aU Tryz.func202 fun w hw hGF => ?_
 refine xp ?_
 refine lb fun b1 => ?_
 refine la zv209 fun b2 => ?_
 refine aa ?_
 refine xp ?_
 refine lc ent104 (lT) ?_
 refine sw rfl (by simp) (by decide) Tryz.underlying209 Tryz.sizeOf27 zv209 rfl rfl ?_
 refine la zv209 fun b3 => ?_
 refine rC2 ?_
 refine ao ?_
 refine pC2 ?_
 refine ap ?_
 refine bK (ι := { i : Nat // 1 ≤ i ∧ i ≤ 16 }) (fun y => [(1, .pointer (some ⟨b1, 0, none⟩)), (2, .pointer (some ⟨b2, 0, none⟩)), (3, .pointer (some ⟨b3, 0, none⟩)), (4, I (y.1 : Int))]) (fun y => [(1, b1, (fe x).map U64, 27), (2, b2, (FL (fun _ => List.replicate 6 0#64) 16).map U64, 209), (3, b3, (SP x y.1).map U64, 209)]) (fun y => 16 - y.1) ⟨1, by omega⟩ hGF ⟨rfl, rfl, rfl, rfl, trivial⟩ ⟨rfl, rfl, by rw [← Eo]; rfl, trivial⟩ ?_
 rintro ⟨i, hi⟩
 dsimp only
 refine ao ?_
 refine pC2 ?_
 refine ab rfl rfl (fun _ => rfl) (fun _ => aI _ _ _) rfl rfl ?_
 refine aa ?_
 refine bG rfl (fun hc => ?_) (fun hc => ?_)
 ·simp only [decide_eq_true_eq] at hc
  refine aE ?_
  refine ao ?_
  refine ap ?_
  refine cg (E := EE []) a7 (by kernel_rfl) (by kernel_rfl) (by kernel_rfl) ?_
  refine rC2 ?_
  refine ab rfl rfl (fun _ => rfl) (fun _ => bE _ _ _ (by unfold inI; omega)) rfl rfl ?_
  refine bI (i - 1) (6 * (i - 1)) rfl rfl Tryz.underlying209 Tryz.sizeOf27 (by omega) (by omega) (by omega) rfl rfl ?_
  refine aQ 3 ((fe (x ^ (i - 1))).map U64) rfl rfl Tryz.isAgg27 Tryz.sizeOf27 (by simp) (mA x i (i - 1) (by omega) (by omega) _ rfl) rfl rfl ?_
  refine rC2 ?_
  refine lc ent63 (fj _ _) ?_
  refine bI (i) (6 * (i)) rfl rfl Tryz.underlying209 Tryz.sizeOf27 (by omega) (by omega) (by omega) rfl rfl ?_
  refine cm 3 ((SP x (i + 1)).map U64) hGF rfl rfl rfl Tryz.sizeOf27 (by simp) (ak _) (by rw [List.length_map, List.length_map, aZ, bl]; omega) (xW x i (by omega) (by omega) _ rfl) rfl ?_
  refine aa ?_
  refine av (E := EE []) ?_
  refine rC2 ?_
  refine ab rfl rfl (fun _ => rfl) (fun _ => aC _ _ _ (by unfold inI; omega)) rfl rfl ?_
  refine rC2 ?_
  repeat (refine aT ?_)
  refine a9 ?_
  exact ⟨rfl, ⟨i + 1, by omega⟩, _, by show 16 - (i + 1) < 16 - i; omega, rfl, ⟨rfl, rfl, rfl, rfl, trivial⟩, ⟨rfl, rfl, rfl, trivial⟩⟩
 ·obtain rfl : i = 16 := by simp at hc; omega
  refine aY ?_
  refine pC2 ?_
  refine rt ?_
  exact aw 2 rfl rfl rfl Tryz.isAgg209 Tryz.sizeOf209 (by simp) (fun w hw => ⟨rfl, ah hw⟩)
def RdD (bb : Nat) (e : Option Addr) (cap : Nat) (bs : List (BitVec 8)) : Cls := fun W => W.cell? ⟨bb, 0, none⟩ = some (.slice e bs.length cap) ∧ BytesAt W e bs
def NB (bs : List (BitVec 8)) : List (List Value) := (List.range (2 * bs.length)).map fun m => [U8 (NBv bs m)]
theorem qp (bs : List (BitVec 8)) : (NB bs).length = 2 * bs.length := by simp [NB]
theorem pW (bs : List (BitVec 8)) (m : Nat) (h : m < 2 * bs.length) : (NB bs)[m]? = some [U8 (NBv bs m)] := by
 rw [NB, List.getElem?_map, List.getElem?_range h]; rfl
theorem F9 (bs : List (BitVec 8)) (m : Nat) (x : List Value) (h : (NB bs)[m]? = some x) : m < 2 * bs.length ∧ x = [U8 (NBv bs m)] := by
 have hm : m < 2 * bs.length := by
  rcases Nat.lt_or_ge m (2 * bs.length) with h' | h'
  ·exact h'
  ·rw [List.getElem?_eq_none (by rw [qp]; exact h')] at h; cases h
 rw [pW bs m hm] at h
 exact ⟨hm, (Option.some.inj h).symm⟩
theorem Ez (bs : List (BitVec 8)) (i : Nat) (h : i < bs.length) : (NB bs)[2 * i]? = some [U8 (bs.getD i 0 >>> 4)] := by
 rw [pW bs _ (by omega), NBv, if_pos (by omega), show 2 * i / 2 = i by omega]
theorem Hc (bs : List (BitVec 8)) (i : Nat) (h : i < bs.length) : (NB bs)[2 * i + 1]? = some [U8 (bs.getD i 0 % 16#8)] := by
 rw [pW bs _ (by omega), NBv, if_neg (by omega), show (2 * i + 1) / 2 = i by omega]
theorem lq (sv : Value) (hs : sv.cells = #[sv]) (w : World) (hw : Gt w) : Calls Tryz.prog 203 [sv].toArray w (fun e w' => ∃ b1, e = .returned (.func (.func 205) #[] #[.pointer (some ⟨b1, 0, none⟩)]) ∧ Grow w w' ∧ w.heap.size ≤ b1 ∧ OwnB w' b1 [sv] 22) := by
 have hGF : BOk Gt (pl w) := gt_low.plain hw
 refine aP (G := Gt) Tryz.func203 rfl rfl (Hp (pl w) []) (a8 (pl w) trivial aq) (az hGF) ?_
 refine xp ?_
 refine mX 1 hGF rfl rfl rfl ?_
 intro b1
 refine rC2 ?_
 refine xp ?_
 refine jO rfl rfl rfl rfl ?_
 refine rC2 ?_
 refine rt ?_
 exact bj rfl rfl (fun w hw => ⟨b1, rfl, ah hw, (hw.own 1 b1 _ _ rfl).2.elim id False.elim, (by have := (hw.own 1 b1 _ _ rfl).1; rw [hs] at this; exact this)⟩)
theorem oM (bb : Nat) (e : Option Addr) (cap : Nat) (bs : List (BitVec 8)) (hlen : bs.length ≤ 1000000) : kW Tryz.prog Gt 205 [.pointer (some ⟨bb, 0, none⟩)] (NB bs) (RdD bb e cap bs) := by
 intro l J Jx hJ hJx hRd hGx hY w hj
 have okJ : ∀ k, BOk Gt (Bi w (fun Y => J Y k)) := fun k => ⟨fun _ _ _ h => (hRd _ _ _ h.rid).1, hJ k⟩
 have okX : ∀ k, BOk Gt (Bi w (fun Y => Jx Y k)) := fun k => ⟨fun _ _ _ h => hGx _ _ _ h.rid, hJx k⟩
 have c1 : ∀ k L w', Hp (Bi w (fun Y => J Y k)) L w' → RdD bb e cap bs w' := fun k L w' h => (hRd _ _ _ h.rid).2
 have hby := (hRd _ _ _ hj).2.2
 refine aP (G := Gt) Tryz.func205 rfl rfl (Hp (Bi w (fun Y => J Y 0)) []) (a8 (Bi w _) hj (hJ 0)) (az (okJ 0)) ?_
 refine xp ?_
 refine dg rfl Tryz.isAgg22 (fun w h => (c1 _ _ w h).1) rfl rfl ?_
 refine bP rfl (fun _ => bf Tryz.underlying22 _ _ _ _) rfl rfl ?_
 refine rC2 ?_
 refine ap ?_
 refine iV (ι := { i : Nat // i ≤ bs.length }) (fun x => [(0, .func (.yield l) #[] #[]), (1, .pointer (some ⟨bb, 0, none⟩)), (5, .slice e bs.length cap), (6, I (bs.length : Int)), (7, I (x.1 : Int))]) (fun x => Bi w (fun Y => J Y (2 * x.1))) (fun x => []) (fun x => bs.length - x.1) ⟨0, Nat.zero_le _⟩ (fun _ => okJ _) rfl ⟨rfl, rfl, rfl, rfl, rfl, trivial⟩ trivial ?_
 rintro ⟨i, hi⟩
 dsimp only
 refine xp ?_
 refine ab rfl rfl (fun _ => rfl) (fun _ => aI _ _ _) rfl rfl ?_
 refine aa ?_
 refine ao ?_
 refine bG rfl (fun hc => ?_) (fun hc => ?_)
 ·simp only [decide_eq_true_eq] at hc
  have hi2 : i < bs.length := by omega
  refine aE ?_
  refine ao ?_
  refine ap ?_
  refine xp ?_
  obtain ⟨ad, rfl, _⟩ := hby i _ (gm U8 bs 0 i (by omega))
  refine ll i rfl rfl Tryz.underlying22 Tryz.sizeOf5 rfl (by omega) rfl rfl ?_
  refine dg rfl Tryz.isAgg5 (fun w' h => by obtain ⟨ad', e', hc'⟩ := (c1 _ _ w' h).2 i _ (gm U8 bs 0 i (by omega)); cases e'; exact hc') rfl rfl ?_
  refine rC2 ?_
  refine sA (E := EE []) 4 ?_
  refine rC2 ?_
  refine ab (v := U8 (bs.getD i 0 >>> 4)) rfl rfl (fun _ => rfl) (fun _ => pQ _ _ 4#64) rfl rfl ?_
  refine fv (hY.b (k := 2 * i) (Ez bs i (by omega)) w) (okJ _) (okX _) rfl rfl rfl rfl rfl ?_ ?_
  ·skip
   refine aa ?_
   refine ⟨EE [], ?_⟩
   refine bY rfl (fun _ => bH _) rfl rfl ?_
   refine rC2 ?_
   refine ab (v := U8 (bs.getD i 0 % 16#8)) rfl rfl (fun _ => rfl) (fun _ => qC _ _ 16#8 (by decide)) rfl rfl ?_
   refine fv (hY.b (k := 2 * i + 1) (Hc bs i (by omega)) w) (okJ _) (okX _) rfl rfl rfl rfl rfl ?_ ?_
   ·skip
    refine bY rfl (fun _ => bH _) rfl rfl ?_
    refine rC2 ?_
    refine bB rfl ?_
    refine aE ?_
    refine av (E := EE []) ?_
    refine ab rfl rfl (fun _ => rfl) (fun _ => aC _ _ _ (by unfold inI; omega)) rfl rfl ?_
    refine rC2 ?_
    rw [show 2 * i + 1 + 1 = 2 * (i + 1) by omega]
    repeat (refine aT ?_)
    refine a9 ?_
    exact ⟨rfl, ⟨i + 1, by omega⟩, _, by show bs.length - (i + 1) < bs.length - i; omega, rfl, ⟨rfl, rfl, rfl, rfl, rfl, trivial⟩, trivial⟩
   ·skip
    refine bY rfl (fun _ => bH _) rfl rfl ?_
    refine rC2 ?_
    refine cd rfl ?_
    refine rt ?_
    repeat (first | refine ep ?_ | refine ck ?_ | refine ek rfl ?_ | refine bq ?_ | refine br ?_)
    exact fg rfl (fun w hw => ⟨⟨_, rfl⟩, .inr ⟨_, cY (hJx _) hw.rid⟩⟩)
  ·skip
   refine aa ?_
   refine ⟨EE [3000000], ?_⟩
   refine bY rfl (fun _ => bH _) rfl rfl ?_
   refine rC2 ?_
   refine cE rfl rfl rfl ?_
   refine cE rfl rfl rfl ?_
   refine cE rfl rfl rfl ?_
   refine cE rfl rfl rfl ?_
   refine cE rfl rfl rfl ?_
   refine rC2 ?_
   refine cd rfl ?_
   refine rt ?_
   repeat (first | refine ep ?_ | refine ck ?_ | refine ek rfl ?_ | refine bq ?_ | refine br ?_)
   exact fg rfl (fun w hw => ⟨⟨_, rfl⟩, .inr ⟨_, cY (hJx _) hw.rid⟩⟩)
 ·simp only [decide_eq_false_iff_not] at hc
  obtain rfl : i = bs.length := by omega
  refine aY ?_
  repeat (first | refine ep ?_ | refine ck ?_ | refine ek rfl ?_ | refine bq ?_ | refine br ?_)
  refine ej rfl (fun w hw => ⟨⟨_, rfl⟩, .inl ?_⟩)
  have := cY (hJ _) hw.rid
  rw [qp]
  exact this
end
section
open Go.RowKit
attribute [local simp] aZ bk aF aA aN aW aL aK aR PLl cy cx N1l cv cw cz bh bl
theorem rC3 {Q P : Prop} (k : Q) (h : Q → P := by intro k; (refine LY.run ?_); (repeat (first | refine bC rfl rfl rfl ?_ | refine bc rfl rfl rfl ?_ | ((refine nr rfl rfl ?_ rfl rfl ?_); (· simp)) | ((refine og hGF rfl rfl rfl ?_ ?_ (ak _) rfl ?_); (· simp); (· simp)) | ((refine z4 hGF rfl rfl rfl ?_ ?_ (ak _) rfl ?_); (· simp); (· simp)))); (first | refine bV ?_ | refine LY.mk ?_); exact k) : P := h k
theorem pB (x : Zp) (e : Option Addr) (cap : Nat) (bs : List (BitVec 8)) (hlen : bs.length ≤ 1000000) (w : World) (hw : Gt w) (hby : BytesAt w e bs) :
  Calls Tryz.prog 192 [EV x, .slice e bs.length cap].toArray w (fun r w' => r = .returned (EV (x ^ BN bs bs.length)) ∧ Grow w w') := by
 have hGF : BOk Gt (pl w) := gt_low.plain hw
 refine ce (G := Gt) Tryz.func192 rfl rfl (Hp (pl w) []) (a8 (pl w) trivial aq) (az hGF) ?_
 refine ae (E := EE [203]) ?_
 refine lb fun b2 => ?_
 refine la zv27 fun b4 => ?_
 refine aa ?_
 refine ae (E := EE [203]) ?_
 refine rC3 ?_
 refine lc ent202 (ov _) ?_
 refine la zv209 fun b5 => ?_
 refine rC3 ?_
 refine ae (E := EE [203]) ?_
 refine bI 0 0 rfl rfl Tryz.underlying209 Tryz.sizeOf27 rfl (by decide) rfl rfl rfl ?_
 refine aQ 5 ((fe (x ^ 0)).map U64) rfl rfl Tryz.isAgg27 Tryz.sizeOf27 (by simp) (mA x 16 0 (by decide) (by decide) 0 rfl) rfl rfl ?_
 refine la zv27 fun b6 => ?_
 refine rC3 ?_
 refine ao ?_
 refine ae (E := EE [203]) ?_
 refine rC3 ?_
 refine cF rfl rfl ent203 rfl rfl (fun w' hw' => (lq _ rfl w' (hGF.g _ _ _ hw')).mono fun e' w'' h => ?_)
 obtain ⟨c1, rfl, hg, h1, ho⟩ := h
 refine ⟨_, _, rfl, az hGF, hw'.news aq hg [(33, c1, [.slice e bs.length cap], 22)] ?_ dP, ?_⟩
 ·intro n' b' c' t' hl
  rcases bn hl with ⟨_, e⟩ | ⟨_, hl⟩
  ·cases e; exact ⟨h1, ho⟩
  ·cases hl
 clear hw' hg h1 ho
 refine aa ?_
 refine ap ?_
 refine d9 (fun _ => pl w) (fun _ _ => pl w) (fun _ => hGF) (fun _ _ => hGF) (fun _ => rfl) (fun _ _ => rfl) rfl rfl ent205 (oM c1 e cap bs hlen) (fun x hx => by obtain ⟨k, hk, rfl⟩ := List.mem_map.1 hx; rfl) rfl (fun k => [(2, b2, (fe x).map U64, 27), (4, b4, (List.replicate 6 0#64).map U64, 27), (5, b5, (SP x 16).map U64, 209), (6, b6, (fe (x ^ DN bs k)).map U64, 27), (33, c1, [.slice e bs.length cap], 22)]) (fun _ _ _ => False) ⟨rfl, rfl, rfl, by rw [DN]; rfl, rfl, trivial⟩ (fun k _ w' h => ⟨cC (n := 33) rfl rfl w' h, hby.grow (h.below (fun _ h => h))⟩) ?_ ?_ (fun _ _ _ _ _ h => h.elim)
 ·intro k v hx R hR
  obtain ⟨hk, rfl⟩ := F9 bs k v hx
  have hlt := Bg bs k
  refine av (E := EE [203]) ?_
  refine rC3 ?_
  refine ⟨rfl, _, rfl, ?_⟩
  refine ap ?_
  refine ao ?_
  refine ae (E := EE [203]) ?_
  refine rC3 ?_
  refine ap ?_
  refine bK (ι := { i : Nat // i ≤ 4 }) (fun j => [(5, .pointer (some ⟨b5, 0, none⟩)), (6, .pointer (some ⟨b6, 0, none⟩)), (7, U8 (NBv bs k)), (15, I (j.1 : Int))]) (fun j => [(2, b2, (fe x).map U64, 27), (4, b4, (List.replicate 6 0#64).map U64, 27), (5, b5, (SP x 16).map U64, 209), (6, b6, (fe (x ^ (2 ^ j.1 * DN bs k))).map U64, 27), (33, c1, [.slice e bs.length cap], 22)]) (fun j => 4 - j.1) ⟨0, by omega⟩ (hR (pl w) rfl hGF).2.1 ⟨rfl, rfl, rfl, rfl, trivial⟩ ⟨rfl, rfl, rfl, by rw [Nat.pow_zero, Nat.one_mul]; rfl, rfl, trivial⟩ ?_
  rintro ⟨j, hj⟩
  dsimp only
  refine ae (E := EE [203]) ?_
  refine ab rfl rfl (fun _ => rfl) (fun _ => aI _ _ _) rfl rfl ?_
  refine aa ?_
  refine ao ?_
  refine bG rfl (fun hc => ?_) (fun hc => ?_)
  ·simp only [decide_eq_true_eq] at hc
   refine aE ?_
   refine ao ?_
   refine ap ?_
   refine av (E := EE [203]) ?_
   refine rC3 ?_
   refine lc ent86 (ib _) ?_
   refine ai 6 (hR (pl w) rfl hGF).2.1 rfl rfl rfl Tryz.sizeOf27 (by simp) (by simp) (ak _) rfl ?_
   refine aa ?_
   refine av (E := EE [203]) ?_
   refine ab rfl rfl (fun _ => rfl) (fun _ => aC _ _ _ (by unfold inI; omega)) rfl rfl ?_
   refine rC3 ?_
   repeat (refine aT ?_)
   refine a9 ?_
   exact ⟨rfl, ⟨j + 1, by omega⟩, _, by show 4 - (j + 1) < 4 - j; omega, rfl, ⟨rfl, rfl, rfl, rfl, trivial⟩, ⟨rfl, rfl, rfl, by rw [← yO]; rfl, rfl, trivial⟩⟩
  ·obtain rfl : j = 4 := by simp at hc; omega
   refine aY ?_
   refine cg (E := EE [203]) a7 (by kernel_rfl) (by kernel_rfl) (by kernel_rfl) ?_
   refine rC3 ?_
   refine xE (6 * (NBv bs k).toNat) rfl rfl Tryz.underlying209 Tryz.sizeOf27 hlt (by omega) rfl rfl ?_
   refine aQ 5 ((fe (x ^ (NBv bs k).toNat)).map U64) rfl rfl Tryz.isAgg27 Tryz.sizeOf27 (by simp) (mA x 16 _ hlt (Nat.le_refl _) _ rfl) rfl rfl ?_
   refine aG rfl rfl ent63 (xb x bs k ▸ fj (x ^ (2 ^ 4 * DN bs k)) (x ^ (NBv bs k).toNat)) rfl rfl ?_
   refine ai 6 (hR (pl w) rfl hGF).2.1 rfl rfl rfl Tryz.sizeOf27 (by simp) (by simp) (ak _) rfl ?_
   refine aa ?_
   repeat (refine aT ?_)
   exact ⟨_, rfl, ⟨rfl, rfl, rfl, rfl, rfl, trivial⟩⟩
 ·intro D hD
  rw [qp, wX]
  refine ae (E := EE [203]) ?_
  refine rC3 ?_
  refine ai 4 hD rfl rfl rfl Tryz.sizeOf27 (by simp) (by simp) (ak _) rfl ?_
  refine aa ?_
  refine rt ?_
  exact df (.inl rfl) aq (aw 4 rfl rfl rfl Tryz.isAgg27 Tryz.sizeOf27 (by simp) (fun w hw => ⟨rfl, ah hw⟩))
end
section
open Go.RowKit
attribute [local simp] aZ bk aF aA aN aW aL aK aR PLl cy cx N1l cv cw cz bh bl
theorem rC4 {Q P : Prop} (k : Q) (h : Q → P := by intro k; (refine LY.run ?_); (repeat (first | refine bC rfl rfl rfl ?_ | refine bc rfl rfl rfl ?_ | ((refine Hh rfl rfl ?_ rfl rfl ?_); (· simp)) | ((refine nr rfl rfl ?_ rfl rfl ?_); (· simp)) | ((refine og hGF rfl rfl rfl ?_ ?_ (ak _) rfl ?_); (· simp); (· simp)) | ((refine Fx hGF rfl rfl rfl ?_ ?_ (ak _) rfl ?_); (· simp); (· simp)) | refine d5 rfl rfl rfl rfl ?_ | refine iY rfl rfl rfl rfl rfl ?_)); (first | refine bV ?_ | refine LY.mk ?_); exact k) : P := h k
theorem pC4 {Q P : Prop} (k : Q) (h : Q → P := by intro k; (refine xp ?_); (refine rC4 ?_); exact k) : P := h k
theorem AX (x : Zp) (b : Nat) (t : TypeId) (bs : List (BitVec 8)) (h48 : bs.length = 48) (w : World) (hw : Gt w) (ho : OwnB w b (bs.map U8) t) :
  Calls Tryz.prog 192 [EV x, .slice (some ⟨b, 0, none⟩) 48 48].toArray w (fun r w' => r = .returned (EV (x ^ BN bs 48)) ∧ Grow w w') := by
 have h := pB x (some ⟨b, 0, none⟩) 48 bs (by omega) w hw (BytesAt.range ho.range)
 rw [h48] at h
 exact h
theorem jf (a : Option Addr) (len cap : Nat) (bs : List (BitVec 8)) (hl : bs.length = len) (h : len ≤ 48) (w : World) (hw : Gt w) (hby : BytesAt w a bs) :
  Calls Tryz.prog 62 [.slice a len cap].toArray w (fun e w' => e = .returned (.tuple #[NV (FRs bs bs.length), .bool true]) ∧ Grow w w') := by
 subst hl
 exact (qs a cap bs w hw hby).mono fun e w' ⟨he, hg⟩ => ⟨by rw [he, if_neg (by omega)], hg⟩
theorem oQ (x : Zp) (n : List (BitVec 64)) (hn : n.length = 6) : Pure Tryz.prog Gt 167 [EV x, NV n] (EV (x ^ V n 6)) := by
 refine aU Tryz.func167 fun w hw hGF => ?_
 refine xp ?_
 refine lb fun b2 => ?_
 refine lb fun b3 => ?_
 refine la zv27 fun b4 => ?_
 refine aa ?_
 refine xp ?_
 refine am 3 rfl rfl Tryz.isAgg25 Tryz.sizeOf25 (by first | (simp; done) | simp [hn]) rfl rfl ?_
 refine aG rfl rfl ent80 (ig _ (by first | (simp; done) | simp [hn])) rfl rfl ?_
 refine la zv115 fun b5 => ?_
 refine ai 5 hGF rfl rfl rfl Tryz.sizeOf115 (by first | (simp; done) | simp [hn]) (by first | (simp; done) | simp [hn]) (gW _) rfl ?_
 refine aa ?_
 refine bx (E := EE []) a7 (by kernel_rfl) (by kernel_rfl) (by kernel_rfl) ?_
 refine am 2 rfl rfl Tryz.isAgg27 Tryz.sizeOf27 (by first | (simp; done) | simp [hn]) rfl rfl ?_
 refine ei (l := 0) (h' := 48) rfl Tryz.underlying115 Tryz.sizeOf5 rfl rfl (by omega) (by omega) rfl rfl ?_
 refine bR rfl rfl ent192 (fun w hC hG => AX x _ _ (BYs n 48) (by first | (simp; done) | simp [hn]) w hG (hC.own 5 _ _ _ rfl).1) rfl rfl ?_
 refine ai 4 hGF rfl rfl rfl Tryz.sizeOf27 (by first | (simp; done) | simp [hn]) (by first | (simp; done) | simp [hn]) (ak _) rfl ?_
 refine aa ?_
 refine rt ?_
 exact aw 4 rfl rfl rfl Tryz.isAgg27 Tryz.sizeOf27 (by first | (simp; done) | simp [hn]) (fun w hw => ⟨by rw [vP n hn 48 rfl], ah hw⟩)
theorem sX (x : Zp) : Pure Tryz.prog Gt 123 [EV x] (EV (x ^ (PP - 2))) := by
 refine aU Tryz.func123 fun w hw hGF => ?_
 refine xp ?_
 refine lb fun b1 => ?_
 refine la zv27 fun b2 => ?_
 refine aa ?_
 refine pC4 ?_
 refine g7 hGF Tryz.isAgg25 Tryz.sizeOf25 (by simp) (fun _ h => h.g4) rfl rfl ?_
 refine aG rfl rfl ent167 (oQ _ _ (by simp)) rfl rfl ?_
 refine rC4 ?_
 refine rt ?_
 exact aw 2 rfl rfl rfl Tryz.isAgg27 Tryz.sizeOf27 (by simp) (fun w hw => ⟨by rw [← yS], ah hw⟩)
theorem eU (e : Option Addr) (cap : Nat) (bs : List (BitVec 8)) (w : World) (hw : Gt w) (hby : BytesAt w e bs) :
  Calls Tryz.prog 46 [.slice e bs.length cap].toArray w (fun r w' => r = .returned (.tuple #[EV (FV bs), .bool (FO bs)]) ∧ Grow w w') := by
 have hGF : BOk Gt (pl w) := gt_low.plain hw
 refine aP (G := Gt) Tryz.func46 rfl rfl (Hp (pl w) []) (a8 (pl w) trivial aq) (az hGF) ?_
 refine xp ?_
 refine la zv27 fun b2 => ?_
 refine rC4 ?_
 refine ao ?_
 refine pC4 ?_
 refine bP rfl (fun _ => bf Tryz.underlying22 _ _ _ _) rfl rfl ?_
 refine ab rfl rfl (fun _ => rfl) (fun _ => sC _ _ _) rfl rfl ?_
 refine aa ?_
 refine bG rfl (fun hc => ?_) (fun hc => ?_)
 ·have hc : ¬ bs.length = 48 := by simp at hc; omega
  refine xp ?_
  refine gB zv27 Tryz.underlying27 (qu Tryz.sizeOf25) rfl rfl ?_
  refine rC4 ?_
  refine rt ?_
  exact dz 2 rfl rfl rfl rfl Tryz.isAgg27 Tryz.sizeOf27 (by simp) (fun w hw => ⟨by rw [FV, FO, if_neg (fun h => hc h.1), decide_eq_false (fun h => hc h.1), ← h9] <;> rfl, ah hw⟩)
 ·have h48 : bs.length = 48 := by simp at hc; omega
  clear hc
  refine aE ?_
  refine pC4 ?_
  refine bR rfl rfl ent62 (fun w' hC hG => jf e bs.length cap bs rfl (by omega) w' hG (hby.grow (ah hC))) rfl rfl ?_
  refine rC4 ?_
  refine la zv25 fun b4 => ?_
  refine rC4 ?_
  refine ao ?_
  refine pC4 ?_
  refine bY rfl (fun _ => bH _) rfl rfl ?_
  refine rC4 ?_
  refine g7 hGF Tryz.isAgg25 Tryz.sizeOf25 (by simp) (fun _ h => h.g3) rfl rfl ?_
  refine aG rfl rfl ent103 (iK _ _ (by simp) (by simp)) rfl rfl ?_
  refine bY rfl (fun _ => bH _) rfl rfl ?_
  refine rC4 ?_
  refine bG rfl (fun hc => ?_) (fun hc => ?_)
  ·have e0 : V (FRs bs bs.length) 6 = BN bs 48 := by rw [n9 bs (by omega), h48]
   have hl : ¬ BN bs 48 < PP := by rw [m4, eo, e0] at hc; simpa using hc
   clear hc
   refine xp ?_
   refine gB zv27 Tryz.underlying27 (qu Tryz.sizeOf25) rfl rfl ?_
   refine rC4 ?_
   refine rt ?_
   exact dz 2 rfl rfl rfl rfl Tryz.isAgg27 Tryz.sizeOf27 (by simp) (fun w hw => ⟨by rw [FV, FO, if_neg (fun h => hl h.2), decide_eq_false (fun h => hl h.2), ← h9] <;> rfl, ah hw⟩)
  ·have e0 : V (FRs bs bs.length) 6 = BN bs 48 := by rw [n9 bs (by omega), h48]
   have hl : BN bs 48 < PP := by rw [m4, eo, e0] at hc; simpa using hc
   clear hc
   refine aE ?_
   refine pC4 ?_
   refine aG rfl rfl ent65 (gQ _ (by simp)) rfl rfl ?_
   refine rC4 ?_
   refine rt ?_
   exact dz 2 rfl rfl rfl rfl Tryz.isAgg27 Tryz.sizeOf27 (by simp) (fun w hw => ⟨by rw [FV, FO, if_pos ⟨h48, hl⟩, decide_eq_true ⟨h48, hl⟩, n9 bs (by omega), h48] <;> rfl, ah hw⟩)
structure WSt (w : World) (bs : List (BitVec 8)) where
 (k : Nat) (a : Option Addr) (c : Nat)
 hk : k ≤ bs.length
 hc : bs.length - k ≤ c
 hb : BytesAt w a (bs.drop k)
 hm : k = 0 ∨ (bs.length - k) % 48 = 0
theorem i4 (bs : List (BitVec 8)) (k cut : Nat) (h : cut ≤ bs.length - k) : ((bs.drop k).take cut).length = cut := by
 rw [List.length_take, List.length_drop]; omega
theorem qf (y : Zp) : Pure Tryz.prog Gt 63 [EV y, NV TWO] (EV (y * RZ)) := DT ▸ fj y RZ
theorem oc (bs : List (BitVec 8)) (h : bs.length ≤ 48) : Pure Tryz.prog Gt 65 [NV (FRs bs bs.length)] (EV (zp (BN bs bs.length))) := n9 bs h ▸ gQ (FRs bs bs.length) (aL _ _)
theorem ji (e : Option Addr) (cap : Nat) (bs : List (BitVec 8)) (hlen : bs.length ≤ 1000000) (hcap : bs.length ≤ cap) (w : World) (hw : Gt w) (hby : BytesAt w e bs) :
  Calls Tryz.prog 23 [.slice e bs.length cap].toArray w (fun r w' => r = .returned (EV (ZB bs)) ∧ Grow w w') := by
 have hGF : BOk Gt (pl w) := gt_low.plain hw
 refine aP (G := Gt) Tryz.func23 rfl rfl (Hp (pl w) []) (a8 (pl w) trivial aq) (az hGF) ?_
 refine xp ?_
 refine la zv27 fun b2 => ?_
 refine aa ?_
 refine xp ?_
 refine la zv27 fun b3 => ?_
 refine aa ?_
 refine ao ?_
 refine ap ?_
 refine bK (ι := WSt w bs) (fun x => [(0, .slice x.a (bs.length - x.k) x.c), (2, .pointer (some ⟨b2, 0, none⟩)), (3, .pointer (some ⟨b3, 0, none⟩))]) (fun x => [(2, b2, (List.replicate 6 0#64).map U64, 27), (3, b3, (fe (zp (BN bs x.k))).map U64, 27)]) (fun x => (bs.length - x.k)) ⟨0, e, cap, Nat.zero_le _, hcap, hby, .inl rfl⟩ hGF ⟨rfl, rfl, rfl, trivial⟩ ⟨rfl, by rw [BN, zm, h9]; rfl, trivial⟩ ?_
 intro x
 refine ao ?_
 refine pC4 ?_
 refine bP rfl (fun _ => bf Tryz.underlying22 _ _ _ _) rfl rfl ?_
 refine ab rfl rfl (fun _ => rfl) (fun _ => dJ _ _ _) rfl rfl ?_
 refine aa ?_
 refine bG rfl (fun hc => ?_) (fun hc => ?_)
 ·have hn : 0 < (bs.length - x.k) := by simp at hc; omega
  clear hc
  have hlenx := x.hk
  have hcut := wS hn
  have hnext : BytesAt w (if x.c = (((bs.length - x.k) - 1) % 48 + 1) then x.a else x.a.map (·.add ((((bs.length - x.k) - 1) % 48 + 1) * 1))) (bs.drop (x.k + (((bs.length - x.k) - 1) % 48 + 1))) := by
   have := x.hb.drop (cap := x.c) (l := (((bs.length - x.k) - 1) % 48 + 1)) (by rw [List.length_drop]; exact x.hc) (by omega)
   rw [List.drop_drop] at this
   exact this
  have hstep : zp (BN bs x.k) * RZ + zp (BN ((bs.drop x.k).take (((bs.length - x.k) - 1) % 48 + 1)) ((bs.drop x.k).take (((bs.length - x.k) - 1) % 48 + 1)).length) = zp (BN bs (x.k + (((bs.length - x.k) - 1) % 48 + 1))) := by
   rw [i4 bs x.k _ hcut.2.1, zn]
   exact sr bs x.k _ (gV id (AV hn) x.hm)
  refine aE ?_
  refine ap ?_
  refine pC4 ?_
  refine bP rfl (fun _ => bf Tryz.underlying22 _ _ _ _) rfl rfl ?_
  refine ab (v := I (((bs.length - x.k) - 1 : Nat) : Int)) rfl rfl (fun _ => rfl) (fun _ => (bE _ _ _ (by unfold inI; omega)).trans (by rw [show ((bs.length - x.k : Nat) : Int) - 1 = ((bs.length - x.k - 1 : Nat) : Int) by omega])) rfl rfl ?_
  refine ab (v := I ((((bs.length - x.k) - 1) % 48 : Nat) : Int)) rfl rfl (fun _ => rfl) (fun _ => cN _ _ _ (by decide)) rfl rfl ?_
  refine ab (v := I (((((bs.length - x.k) - 1) % 48 + 1) : Nat) : Int)) rfl rfl (fun _ => rfl) (fun _ => aC _ _ _ (by unfold inI; omega)) rfl rfl ?_
  refine rC4 ?_
  refine pC4 ?_
  refine jE (l := 0) (h' := (((bs.length - x.k) - 1) % 48 + 1)) rfl Tryz.underlying22 Tryz.sizeOf5 rfl rfl ⟨Nat.zero_le _, Nat.le_trans hcut.2.1 x.hc⟩ rfl rfl ?_
  refine bR rfl rfl ent62 (fun w' hC hG => jf _ (((bs.length - x.k) - 1) % 48 + 1) _ ((bs.drop x.k).take (((bs.length - x.k) - 1) % 48 + 1)) (i4 bs x.k _ hcut.2.1) hcut.2.2 w' hG ((x.hb.cut 0 (((bs.length - x.k) - 1) % 48 + 1) (by rw [List.length_drop]; exact x.hc)).grow (ah hC))) rfl rfl ?_
  refine rC4 ?_
  refine la zv25 fun b5 => ?_
  refine rC4 ?_
  refine bx (E := EE []) a7 (by kernel_rfl) (by kernel_rfl) (by kernel_rfl) ?_
  refine rC4 ?_
  refine g7 hGF Tryz.isAgg25 Tryz.sizeOf25 (by simp) (fun _ h => h.g0) rfl rfl ?_
  refine bN rfl (by simp) Tryz.underlying27 rfl Tryz.sizeOf25 zv27 rfl rfl ?_
  refine lc ent63 (qf _) ?_
  refine rC4 ?_
  refine aG rfl rfl ent65 (oc ((bs.drop x.k).take (((bs.length - x.k) - 1) % 48 + 1)) (by rw [i4 bs x.k _ hcut.2.1]; exact hcut.2.2)) rfl rfl ?_
  refine lc ent64 (lN _ _) ?_
  refine rC4 ?_
  refine av (E := EE []) ?_
  refine rC4 ?_
  refine jE (l := (((bs.length - x.k) - 1) % 48 + 1)) (h' := (bs.length - x.k)) rfl Tryz.underlying22 Tryz.sizeOf5 rfl rfl ⟨hcut.2.1, x.hc⟩ rfl rfl ?_
  refine rC4 ?_
  repeat (refine aT ?_)
  refine a9 ?_
  exact ⟨rfl, ⟨x.k + (((bs.length - x.k) - 1) % 48 + 1), _, x.c - (((bs.length - x.k) - 1) % 48 + 1), by have := x.hk; omega, by have := x.hc; omega, hnext, .inr (by rw [Nat.sub_add_eq]; exact hcut.1)⟩, _, by show bs.length - (x.k + (((bs.length - x.k) - 1) % 48 + 1)) < bs.length - x.k; omega, rfl, ⟨congrArg (fun n => some (Value.slice _ n _)) (Nat.sub_sub bs.length x.k (((bs.length - x.k) - 1) % 48 + 1)), rfl, rfl, trivial⟩, ⟨rfl, by rw [← hstep]; rfl, trivial⟩⟩
 ·have hn : x.k = bs.length := by simp at hc; have := x.hk; omega
  clear hc
  refine aY ?_
  refine pC4 ?_
  refine rt ?_
  exact aw 2 rfl rfl rfl Tryz.isAgg27 Tryz.sizeOf27 (by simp) (fun w hw => ⟨by rw [hn]; rfl, ah hw⟩)
end
end Go.Proofs.YtpnpiblphnpfiaaGreatDoor
