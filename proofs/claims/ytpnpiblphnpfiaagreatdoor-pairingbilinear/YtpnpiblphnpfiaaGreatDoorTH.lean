/-
 The program's Loop.
-/
import Derived.Test.YtpnpiblphnpfiaaGreatDoorTG
import Derived.Test.YtpnpiblphnpfiaaGreatDoorX5
namespace Go.Proofs.YtpnpiblphnpfiaaGreatDoor
open Go.RowKit
set_option maxRecDepth 100000
set_option maxHeartbeats 1000000
attribute [local simp] aP bc aM aH aA a9 aF aE aG PLl bY ca N1l cb cf bZ aU ba aN aZ a7 J1.bk J2.bk Q6.bX
theorem rTH {Q P : Prop} (k : Q) (h : Q → P := by intro k; (refine LY.run ?_); (repeat (first | refine bI rfl rfl rfl ?_ | refine bd rfl rfl rfl ?_ | ((refine pF rfl rfl ?_ rfl rfl ?_); (· simp)) | ((refine na hGF rfl rfl rfl ?_ ?_ (ak _) rfl ?_); (· simp); (· simp)) | refine bT (f := 41) rfl rfl ent41 (jA _) rfl rfl ?_ | refine bT (f := 22) rfl rfl ent22 (gR) rfl rfl ?_ | refine bT (f := 112) rfl rfl ent112 (qo) rfl rfl ?_ | refine bT (f := 82) rfl rfl ent82 (fo _) rfl rfl ?_)); (first | refine cm ?_ | refine LY.mk ?_); exact k) : P := h k

namespace Q6
abbrev gL (x : W12) : List Value := (((fe ((x).1.1).1 ++ fe ((x).1.1).2) ++ ((fe ((x).1.2.1).1 ++ fe ((x).1.2.1).2) ++ (fe ((x).1.2.2).1 ++ fe ((x).1.2.2).2))) ++ ((fe ((x).2.1).1 ++ fe ((x).2.1).2) ++ ((fe ((x).2.2.1).1 ++ fe ((x).2.2.1).2) ++ (fe ((x).2.2.2).1 ++ fe ((x).2.2.2).2)))).map U64
theorem h9 (x : W12) : (gL x).length = 72 := by simp
def mkC (fs : List Nat) (o : Oper) : Bool := match o.op with
 | .call { callee := .value (.func f), .. } => fs.any (Nat.beq f)
 | _ => false
def SK (W : List WK) (k : Nat) : List WK × W12 := rdK (D63.take k) (W, K12.one)
theorem F6 (W : List WK) {k : Nat} (h : k < 63) : SK W (k + 1) = rdF (DGb k) (SK W k) := by rw [SK, kk h, rO]; rfl
theorem m6 (W : List WK) {k : Nat} (h : k < 63) (hd : DGb k = false) : SK W (k + 1) = ((SK W k).1.map wDb, cX rDb (SK W k).1 (K12.mul (SK W k).2 (SK W k).2)) := by rw [F6 W h, hd]; rfl
theorem mw (W : List WK) {k : Nat} (h : k < 63) (hd : DGb k = true) : SK W (k + 1) = (((SK W k).1.map wDb).map wJn, cX rJn ((SK W k).1.map wDb) (cX rDb (SK W k).1 (K12.mul (SK W k).2 (SK W k).2))) := by rw [F6 W h, hd]; rfl
theorem ga (W : List WK) : ∀ k, k ≤ 63 → (SK W k).1.length = W.length
 | 0, _ => rfl
 | k + 1, h => by
  have ih := ga W k (by omega)
  cases d : DGb k with
  | false => rw [m6 W (by omega) d, List.length_map]; exact ih
  | true => rw [mw W (by omega) d, List.length_map, List.length_map]; exact ih
theorem iJ (g : WK → W6) : ∀ (l : List WK) (w : WK) (f : W12), cX g (l ++ [w]) f = K12.mul (lel (g w)) (cX g l f)
 | [], _, _ => rfl
 | v :: l, w, f => iJ g l w (K12.mul (lel (g v)) f)
theorem oZ {l : List WK} {j : Nat} {w : WK} (h : l[j]? = some w) : l.take (j + 1) = l.take j ++ [w] := by rw [List.take_add_one, h]; rfl
theorem CN {l : List WK} {j : Nat} {w : WK} (h : l[j]? = some w) : l.drop j = w :: l.drop (j + 1) := by
 have hj := (List.getElem?_eq_some_iff.1 h).1
 rw [List.drop_eq_getElem_cons hj]
 exact congrArg (· :: _) (List.getElem?_eq_some_iff.1 h).2
def upW (g : WK → WK) (l : List WK) (j : Nat) : List WK := (l.take j).map g ++ l.drop j
theorem EM {g : WK → WK} {l : List WK} {j : Nat} {w : WK} (h : l[j]? = some w) (post : List Value) : wcl (upW g l j) ++ post = wcl ((l.take j).map g) ++ (clv (fT w) ++ (wcl (l.drop (j + 1)) ++ post)) := by
 rw [upW, CN h, jy, kh]
 simp only [List.append_assoc]
theorem FP {g : WK → WK} {l : List WK} {j : Nat} {w : WK} (h : l[j]? = some w) (post : List Value) : wcl (upW g l (j + 1)) ++ post = wcl ((l.take j).map g) ++ (clv (fT (g w)) ++ (wcl (l.drop (j + 1)) ++ post)) := by
 rw [upW, oZ h, List.map_append, jy, jy, show [w].map g = [g w] from rfl, q8]
 simp only [List.append_assoc]
theorem GI {g : WK → WK} {l : List WK} {j : Nat} {w : WK} (h : l[j]? = some w) : (wcl ((l.take j).map g)).length = 0 + 72 * j := by
 have hj := (List.getElem?_eq_some_iff.1 h).1
 rw [mi, List.length_map, List.length_take, Nat.min_eq_left (by omega), Nat.zero_add]
theorem Gd (g : WK → WK) (l : List WK) : upW g l 0 = l := rfl
theorem zP (g : WK → WK) {l : List WK} {j : Nat} (h : l.length = j) : upW g l j = l.map g := by
 rw [upW, List.take_of_length_le (by omega), List.drop_eq_nil_of_le (by omega), List.append_nil]
theorem HY {f : FuncId} {g : WK → WK} {u : WK → W6} {l : List WK} {j : Nat} {w : WK} (h : l[j]? = some w) {b : Nat} {post : List Value} {W : World} (ho : OwnB W b (wcl (upW g l j) ++ post) 141)
  (hc : ∀ {pre post : List Value}, OwnB W b (pre ++ (clv (fT w) ++ post)) 141 → Calls Tryz.prog f [.pointer (some ⟨b, pre.length, none⟩)].toArray W (fun e W' => e = .returned (EV6 (u w)) ∧ Mod b W W' ∧ OwnB W' b (pre ++ (clv (fT (g w)) ++ post)) 141)) :
  Calls Tryz.prog f [.pointer (some ⟨b, 0 + 72 * j, none⟩)].toArray W (fun e W' => e = .returned (EV6 (u w)) ∧ Mod b W W' ∧ OwnB W' b (wcl (upW g l (j + 1)) ++ post) 141) := by
 rw [EM h] at ho
 have k := hc ho
 rw [GI h] at k
 rw [FP h]
 exact k
theorem CC {l : List WK} {j : Nat} {w : WK} (h : l[j]? = some w) {b : Nat} {post : List Value} {W : World} (hw : Gt W) (hb : 5 ≤ b) (ho : OwnB W b (wcl (upW wDb l j) ++ post) 141) : Calls Tryz.prog 113 [.pointer (some ⟨b, 0 + 72 * j, none⟩)].toArray W (fun e W' => e = .returned (EV6 (rDb w)) ∧ Mod b W W' ∧ OwnB W' b (wcl (upW wDb l (j + 1)) ++ post) 141) := HY h ho (fun {_ _} k => mdbl w hw hb k)
theorem GS {l : List WK} {j : Nat} {w : WK} (h : l[j]? = some w) {b : Nat} {post : List Value} {W : World} (hz : ¬ w.2.2.2.2 = ze2) (hw : Gt W) (hb : 5 ≤ b) (ho : OwnB W b (wcl (upW wJn l j) ++ post) 141) : Calls Tryz.prog 115 [.pointer (some ⟨b, 0 + 72 * j, none⟩)].toArray W (fun e W' => e = .returned (EV6 (rJn w)) ∧ Mod b W W' ∧ OwnB W' b (wcl (upW wJn l (j + 1)) ++ post) 141) := HY h ho (fun {_ _} k => mjn w hz hw hb k)
theorem CD (W : List WK) (n b cap : Nat) (cs : List Value) (hWl : W.length ≤ 1000) (hZ : ∀ k, k < 63 → DGb k = true → ∀ w ∈ (SK W k).1.map wDb, ¬ w.2.2.2.2 = ze2) (hB : ∀ w', Gt w' → w'.rangeAt b 0 cs → Calls Tryz.prog 111 [.slice (some ⟨b, 0, none⟩) n cap].toArray w' (fun r w'' => ∃ bW post capW, r = .returned (.slice (some ⟨bW, 0, none⟩) W.length capW) ∧ Grow w' w'' ∧ w'.heap.size ≤ bW ∧ OwnB w'' bW (wcl W ++ post) 141)) (w : World) (hw : Gt w) (h : w.rangeAt b 0 cs) :
  Calls Tryz.prog 55 [.slice (some ⟨b, 0, none⟩) n cap].toArray w (fun r w' => r = .returned (bg (bu (SK W 63).2)) ∧ Grow w w') := by
 have hGF : BOk Gt (pl w) := gt_low.plain hw
 refine bD (G := Gt) Tryz.func55 rfl rfl (Hp (pl w) []) (aJ (pl w) trivial ai) (ap hGF) ?_
 refine ab (E := EE [111, 113, 115]) ?_
 refine la zv49 fun b2 => ?_
 refine aa ?_
 refine fG ?_
 refine ab (E := EE [111, 113, 115]) ?_
 refine rTH ?_
 refine ck rfl rfl ent111 rfl rfl (fun w' hw' => (hB w' (hGF.g _ _ _ hw') (dI h (fun h => h) w' hw')).mono fun e' w'' h' => ?_)
 obtain ⟨bW, post, capW, rfl, hg, hbD, hoD⟩ := h'
 have hb3 : 5 ≤ bW := Nat.le_trans (zG (hGF.g _ _ _ hw')) hbD
 refine ⟨_, _, rfl, ap hGF, hw'.news ai hg [(50, bW, wcl W ++ post, 141)] ?_ cH, ?_⟩
 ·intro n' b' c' t' hl
  rcases a6 hl with ⟨_, e⟩ | ⟨_, hl⟩
  ·cases e; exact ⟨hbD, hoD⟩
  ·cases hl
 clear hw' hg hbD hoD
 refine dU 3 hGF Tryz.zeroValue135 rfl rfl ?_
 intro b3
 refine cx 3 hGF rfl rfl rfl Tryz.sizeOf135 rfl (by first | decide | simp) rfl ?_
 refine aa ?_
 refine ab (E := EE [111, 113, 115]) ?_
 refine rTH ?_
 refine la zv49 fun b4 => ?_
 refine rTH ?_
 refine ao ?_
 refine fH ?_
 refine ao ?_
 refine ab (E := EE [111, 113, 115]) ?_
 refine rTH ?_
 refine aj ?_
 refine cZ (fun _ => pl w) (fun _ _ => pl w) (fun _ => hGF) (fun _ _ => hGF) (fun _ => rfl) (fun _ _ => rfl) rfl rfl ent158 ir (fun x hx => by obtain ⟨k, hk, rfl⟩ := List.mem_map.1 hx; rfl) rfl (fun k => [(2, b2, (((fe 0 ++ fe 0) ++ ((fe 0 ++ fe 0) ++ (fe 0 ++ fe 0))) ++ ((fe 0 ++ fe 0) ++ ((fe 0 ++ fe 0) ++ (fe 0 ++ fe 0)))).map U64, 49), (3, b3, [.slice (some ⟨bW, 0, none⟩) W.length capW], 135), (4, b4, gL ((SK W k).2), 49), (50, bW, wcl ((SK W k).1) ++ post, 141)]) (fun _ _ _ => False) ⟨rfl, rfl, rfl, rfl, trivial⟩ (fun _ _ _ _ => trivial) ?_ ?_ (fun _ _ _ _ _ h => h.elim)
 ·intro k v hx R hR
  obtain ⟨hk, rfl⟩ := mW hx
  refine aq (E := EE [111, 113, 115]) ?_
  refine rTH ?_
  refine ⟨rfl, _, rfl, ?_⟩
  refine aj ?_
  refine ab (E := EE [111, 113, 115]) ?_
  refine rTH ?_
  refine am 4 (hR (pl w) rfl hGF).2.1 rfl rfl rfl Tryz.sizeOf49 (by simp) (by simp) (ak _) rfl ?_
  refine aa ?_
  refine ao ?_
  refine ab (E := EE [111, 113, 115]) ?_
  refine bR 3 rfl rfl rfl Tryz.isAgg135 rfl rfl ?_
  refine bt rfl (fun _ => aK Tryz.underlying135 _ _ _ _) rfl rfl ?_
  refine rTH ?_
  refine aj ?_
  obtain ⟨F0, hF0⟩ : ∃ F0, F0 = K12.mul (SK W k).2 (SK W k).2 := ⟨_, rfl⟩
  refine cy (ι := { j : Nat // j ≤ W.length }) (fun y => [(2, .pointer (some ⟨b2, 0, none⟩)), (3, .pointer (some ⟨b3, 0, none⟩)), (4, .pointer (some ⟨b4, 0, none⟩)), (5, .bool (DGb k)), (16, I ((W.length : Nat) : Int)), (17, I (y.1 : Int))]) (fun y => [(2, b2, (((fe 0 ++ fe 0) ++ ((fe 0 ++ fe 0) ++ (fe 0 ++ fe 0))) ++ ((fe 0 ++ fe 0) ++ ((fe 0 ++ fe 0) ++ (fe 0 ++ fe 0)))).map U64, 49), (3, b3, [.slice (some ⟨bW, 0, none⟩) W.length capW], 135), (4, b4, gL (cX rDb ((SK W k).1.take y.1) F0), 49), (50, bW, wcl (upW wDb (SK W k).1 y.1) ++ post, 141)]) (fun y => W.length - y.1) ⟨0, Nat.zero_le _⟩ (hR (pl w) rfl hGF).2.1 ⟨rfl, rfl, rfl, rfl, rfl, rfl, trivial⟩ ⟨rfl, rfl, by rw [hF0]; rfl, rfl, trivial⟩ ?_
  rintro ⟨j, hj⟩
  dsimp only
  refine ab (E := EE [111, 113, 115]) ?_
  refine ac rfl rfl (fun _ => rfl) (fun _ => aQ _ _ _) rfl rfl ?_
  refine aa ?_
  refine ao ?_
  refine bM rfl (fun hc => ?_) (fun hc => ?_)
  ·have hj2 : j < W.length := by simp at hc; omega
   obtain ⟨wj, hwj⟩ : ∃ wj, (SK W k).1[j]? = some wj := ⟨_, List.getElem?_eq_getElem (by rw [ga W k (by omega)]; exact hj2)⟩
   refine az ?_
   refine ao ?_
   refine aj ?_
   refine ab (E := EE [111, 113, 115]) ?_
   refine rTH ?_
   refine ma (E := EE [111, 113, 115]) (fun X => X = Hp (R.b (pl w)) [(4, b4, gL (cX rDb ((SK W k).1.take j) F0), 49)]) (mkC [113]) (rkB [24]) [0, 1, 2, 4, 3, 5, 6] bq rfl (by kernel_rfl) (by kernel_rfl) (by kernel_rfl) ?_
   refine i4 rfl rfl ?_
   refine bR 3 rfl rfl rfl Tryz.isAgg135 rfl rfl ?_
   refine aa ?_
   refine i4 rfl rfl ?_
   refine rTH ?_
   refine i4 rfl rfl ?_
   refine kp (s := 72) j rfl rfl Tryz.underlying135 Tryz.sizeOf141 (by omega) (by omega) rfl rfl ?_
   refine aa ?_
   refine rc (X := Hp (R.b (pl w)) [(4, b4, gL (cX rDb ((SK W k).1.take j) F0), 49)]) rfl (e8 (hR (pl w) rfl hGF).2.1.r ⟨rfl, trivial⟩) (fun _ => rfl) ?_
   refine aw 4 rfl rfl Tryz.isAgg49 Tryz.sizeOf49 (h9 _) rfl rfl ?_
   refine aa ?_
   refine nK rfl ?_
   refine ck rfl rfl ent113 rfl rfl (fun w' hw' => (CC hwj ((hR (pl w) rfl hGF).2.1.g _ _ _ hw') hb3 (hw'.own 50 _ _ _ rfl).1).mono fun e' w'' h' => ?_)
   obtain ⟨rfl, hm, ho⟩ := h'
   refine ⟨_, _, rfl, ap (hR (pl w) rfl hGF).2.1, hw'.mod (hR (pl w) rfl hGF).2.1.r (n := 50) rfl hm ho, ?_⟩
   clear hw' hm ho
   refine aa ?_
   refine ⟨fun _ X hX _ => by subst hX; exact e8 (hR (pl w) rfl hGF).2.1.r ⟨rfl, trivial⟩, ?_⟩
   refine i4 rfl rfl ?_
   refine aD rfl rfl ent114 (qd (rDb wj) (cX rDb ((SK W k).1.take j) F0)) rfl rfl ?_
   refine aa ?_
   refine nK rfl ?_
   refine am 4 (hR (pl w) rfl hGF).2.1 rfl rfl rfl Tryz.sizeOf49 (by simp) (h9 _) (ak _) rfl ?_
   refine aa ?_
   refine ⟨fun h => Bool.noConfusion h, ?_⟩
   refine mf ?_
   refine aq (E := EE [111, 113, 115]) ?_
   refine ac rfl rfl (fun _ => rfl) (fun _ => aI _ _ _ (by unfold inI; omega)) rfl rfl ?_
   refine rTH ?_
   repeat (refine aO ?_)
   refine bi ?_
   have eF : K12.mul (lel (rDb wj)) (cX rDb ((SK W k).1.take j) F0) = cX rDb ((SK W k).1.take (j + 1)) F0 := by rw [oZ hwj, iJ]
   exact ⟨rfl, ⟨j + 1, by omega⟩, _, by show W.length - (j + 1) < W.length - j; omega, rfl, ⟨rfl, rfl, rfl, rfl, rfl, rfl, trivial⟩, ⟨rfl, rfl, by rw [← eF]; rfl, rfl, trivial⟩⟩
  ·obtain rfl : j = W.length := by simp at hc; omega
   refine aW ?_
   rw [zP wDb (by rw [ga W k (by omega)]), List.take_of_length_le (Nat.le_of_eq (by rw [ga W k (by omega)])), hF0]
   clear hF0
   refine ao ?_
   refine ab (E := EE [111, 113, 115]) ?_
   refine rTH ?_
   refine bx rfl (fun _ => bf _) rfl rfl ?_
   refine aa ?_
   refine bM rfl (fun hc => ?_) (fun hc => ?_)
   ·have hd : DGb k = false := by simpa using hc
    refine aW ?_
    repeat (first | refine aO ?_ | refine bJ ?_)
    exact ⟨_, rfl, ⟨rfl, rfl, by first | (rw [m6 W hk hd]; rfl) | (rw [mw W hk hd]; rfl), by first | (rw [m6 W hk hd]; rfl) | (rw [mw W hk hd]; rfl), trivial⟩⟩
   ·have hd : DGb k = true := by simpa using hc
    refine az ?_
    refine ab (E := EE [111, 113, 115]) ?_
    refine bR 3 rfl rfl rfl Tryz.isAgg135 rfl rfl ?_
    refine bt rfl (fun _ => aK Tryz.underlying135 _ _ _ _) rfl rfl ?_
    refine rTH ?_
    refine aj ?_
    obtain ⟨F0, hF0⟩ : ∃ F0, F0 = cX rDb (SK W k).1 (K12.mul (SK W k).2 (SK W k).2) := ⟨_, rfl⟩
    refine cy (ι := { j : Nat // j ≤ W.length }) (fun y => [(2, .pointer (some ⟨b2, 0, none⟩)), (3, .pointer (some ⟨b3, 0, none⟩)), (4, .pointer (some ⟨b4, 0, none⟩)), (5, .bool (DGb k)), (30, I ((W.length : Nat) : Int)), (31, I (y.1 : Int))]) (fun y => [(2, b2, (((fe 0 ++ fe 0) ++ ((fe 0 ++ fe 0) ++ (fe 0 ++ fe 0))) ++ ((fe 0 ++ fe 0) ++ ((fe 0 ++ fe 0) ++ (fe 0 ++ fe 0)))).map U64, 49), (3, b3, [.slice (some ⟨bW, 0, none⟩) W.length capW], 135), (4, b4, gL (cX rJn (((SK W k).1.map wDb).take y.1) F0), 49), (50, bW, wcl (upW wJn ((SK W k).1.map wDb) y.1) ++ post, 141)]) (fun y => W.length - y.1) ⟨0, Nat.zero_le _⟩ (hR (pl w) rfl hGF).2.1 ⟨rfl, rfl, rfl, rfl, rfl, rfl, trivial⟩ ⟨rfl, rfl, by rw [hF0]; rfl, by rw [Gd]; rfl, trivial⟩ ?_
    rintro ⟨j, hj⟩
    dsimp only
    refine ab (E := EE [111, 113, 115]) ?_
    refine ac rfl rfl (fun _ => rfl) (fun _ => aQ _ _ _) rfl rfl ?_
    refine aa ?_
    refine ao ?_
    refine bM rfl (fun hc => ?_) (fun hc => ?_)
    ·have hj2 : j < W.length := by simp at hc; omega
     obtain ⟨wj, hwj⟩ : ∃ wj, ((SK W k).1.map wDb)[j]? = some wj := ⟨_, List.getElem?_eq_getElem (by rw [List.length_map, ga W k (by omega)]; exact hj2)⟩
     refine az ?_
     refine ao ?_
     refine aj ?_
     refine ab (E := EE [111, 113, 115]) ?_
     refine rTH ?_
     refine ma (E := EE [111, 113, 115]) (fun X => X = Hp (R.b (pl w)) [(4, b4, gL (cX rJn (((SK W k).1.map wDb).take j) F0), 49)]) (mkC [115]) (rkB [38]) [0, 1, 2, 4, 3, 5, 6] bq rfl (by kernel_rfl) (by kernel_rfl) (by kernel_rfl) ?_
     refine i4 rfl rfl ?_
     refine bR 3 rfl rfl rfl Tryz.isAgg135 rfl rfl ?_
     refine aa ?_
     refine i4 rfl rfl ?_
     refine rTH ?_
     refine i4 rfl rfl ?_
     refine kp (s := 72) j rfl rfl Tryz.underlying135 Tryz.sizeOf141 (by omega) (by omega) rfl rfl ?_
     refine aa ?_
     refine rc (X := Hp (R.b (pl w)) [(4, b4, gL (cX rJn (((SK W k).1.map wDb).take j) F0), 49)]) rfl (e8 (hR (pl w) rfl hGF).2.1.r ⟨rfl, trivial⟩) (fun _ => rfl) ?_
     refine aw 4 rfl rfl Tryz.isAgg49 Tryz.sizeOf49 (h9 _) rfl rfl ?_
     refine aa ?_
     refine nK rfl ?_
     refine ck rfl rfl ent115 rfl rfl (fun w' hw' => (GS hwj (hZ k hk hd _ (List.mem_of_getElem? hwj)) ((hR (pl w) rfl hGF).2.1.g _ _ _ hw') hb3 (hw'.own 50 _ _ _ rfl).1).mono fun e' w'' h' => ?_)
     obtain ⟨rfl, hm, ho⟩ := h'
     refine ⟨_, _, rfl, ap (hR (pl w) rfl hGF).2.1, hw'.mod (hR (pl w) rfl hGF).2.1.r (n := 50) rfl hm ho, ?_⟩
     clear hw' hm ho
     refine aa ?_
     refine ⟨fun _ X hX _ => by subst hX; exact e8 (hR (pl w) rfl hGF).2.1.r ⟨rfl, trivial⟩, ?_⟩
     refine i4 rfl rfl ?_
     refine aD rfl rfl ent114 (qd (rJn wj) (cX rJn (((SK W k).1.map wDb).take j) F0)) rfl rfl ?_
     refine aa ?_
     refine nK rfl ?_
     refine am 4 (hR (pl w) rfl hGF).2.1 rfl rfl rfl Tryz.sizeOf49 (by simp) (h9 _) (ak _) rfl ?_
     refine aa ?_
     refine ⟨fun h => Bool.noConfusion h, ?_⟩
     refine mf ?_
     refine aq (E := EE [111, 113, 115]) ?_
     refine ac rfl rfl (fun _ => rfl) (fun _ => aI _ _ _ (by unfold inI; omega)) rfl rfl ?_
     refine rTH ?_
     repeat (refine aO ?_)
     refine bi ?_
     have eF : K12.mul (lel (rJn wj)) (cX rJn (((SK W k).1.map wDb).take j) F0) = cX rJn (((SK W k).1.map wDb).take (j + 1)) F0 := by rw [oZ hwj, iJ]
     exact ⟨rfl, ⟨j + 1, by omega⟩, _, by show W.length - (j + 1) < W.length - j; omega, rfl, ⟨rfl, rfl, rfl, rfl, rfl, rfl, trivial⟩, ⟨rfl, rfl, by rw [← eF]; rfl, rfl, trivial⟩⟩
    ·obtain rfl : j = W.length := by simp at hc; omega
     refine aW ?_
     rw [zP wJn (by rw [List.length_map, ga W k (by omega)]), List.take_of_length_le (Nat.le_of_eq (by rw [List.length_map, ga W k (by omega)])), hF0]
     clear hF0
     repeat (first | refine aO ?_ | refine bJ ?_)
     exact ⟨_, rfl, ⟨rfl, rfl, by first | (rw [m6 W hk hd]; rfl) | (rw [mw W hk hd]; rfl), by first | (rw [m6 W hk hd]; rfl) | (rw [mw W hk hd]; rfl), trivial⟩⟩
 ·intro D hD
  rw [gH]
  refine ab (E := EE [111, 113, 115]) ?_
  refine rTH ?_
  refine am 2 hD rfl rfl rfl Tryz.sizeOf49 (by simp) (by simp) (ak _) rfl ?_
  refine aa ?_
  refine ez ?_
  repeat (first | refine aY ?_ | refine aX ?_ | refine dH ?_)
  exact cn (.inl rfl) ai (av 2 rfl rfl rfl Tryz.isAgg49 Tryz.sizeOf49 (by simp) (fun w hw => ⟨rfl, ah hw⟩))
theorem Do (W : List WK) (n b cap : Nat) (cs : List Value) (hW0 : ∀ k, k ≤ 63 → (SK W k).1 = []) (hB : ∀ w', Gt w' → w'.rangeAt b 0 cs → Calls Tryz.prog 111 [.slice (some ⟨b, 0, none⟩) n cap].toArray w' (fun r w'' => r = .returned (.slice none 0 0) ∧ Grow w' w'')) (w : World) (hw : Gt w) (h : w.rangeAt b 0 cs) :
  Calls Tryz.prog 55 [.slice (some ⟨b, 0, none⟩) n cap].toArray w (fun r w' => r = .returned (bg (bu (SK W 63).2)) ∧ Grow w w') := by
 have hGF : BOk Gt (pl w) := gt_low.plain hw
 refine bD (G := Gt) Tryz.func55 rfl rfl (Hp (pl w) []) (aJ (pl w) trivial ai) (ap hGF) ?_
 refine ab (E := EE [111, 113, 115]) ?_
 refine la zv49 fun b2 => ?_
 refine aa ?_
 refine fG ?_
 refine ab (E := EE [111, 113, 115]) ?_
 refine rTH ?_
 refine ck rfl rfl ent111 rfl rfl (fun w' hw' => (hB w' (hGF.g _ _ _ hw') (dI h (fun h => h) w' hw')).mono fun e' w'' h' => ?_)
 obtain ⟨rfl, hg⟩ := h'
 refine ⟨_, _, rfl, ap hGF, hw'.grow ai hg, ?_⟩
 clear hw' hg
 refine dU 3 hGF Tryz.zeroValue135 rfl rfl ?_
 intro b3
 refine cx 3 hGF rfl rfl rfl Tryz.sizeOf135 rfl (by first | decide | simp) rfl ?_
 refine aa ?_
 refine ab (E := EE [111, 113, 115]) ?_
 refine rTH ?_
 refine la zv49 fun b4 => ?_
 refine rTH ?_
 refine ao ?_
 refine fH ?_
 refine ao ?_
 refine ab (E := EE [111, 113, 115]) ?_
 refine rTH ?_
 refine aj ?_
 refine cZ (fun _ => pl w) (fun _ _ => pl w) (fun _ => hGF) (fun _ _ => hGF) (fun _ => rfl) (fun _ _ => rfl) rfl rfl ent158 ir (fun x hx => by obtain ⟨k, hk, rfl⟩ := List.mem_map.1 hx; rfl) rfl (fun k => [(2, b2, (((fe 0 ++ fe 0) ++ ((fe 0 ++ fe 0) ++ (fe 0 ++ fe 0))) ++ ((fe 0 ++ fe 0) ++ ((fe 0 ++ fe 0) ++ (fe 0 ++ fe 0)))).map U64, 49), (3, b3, [.slice none 0 0], 135), (4, b4, gL ((SK W k).2), 49)]) (fun _ _ _ => False) ⟨rfl, rfl, rfl, trivial⟩ (fun _ _ _ _ => trivial) ?_ ?_ (fun _ _ _ _ _ h => h.elim)
 ·intro k v hx R hR
  obtain ⟨hk, rfl⟩ := mW hx
  refine aq (E := EE [111, 113, 115]) ?_
  refine rTH ?_
  refine ⟨rfl, _, rfl, ?_⟩
  refine aj ?_
  refine ab (E := EE [111, 113, 115]) ?_
  refine rTH ?_
  refine am 4 (hR (pl w) rfl hGF).2.1 rfl rfl rfl Tryz.sizeOf49 (by simp) (by simp) (ak _) rfl ?_
  refine aa ?_
  refine ao ?_
  refine ab (E := EE [111, 113, 115]) ?_
  refine bR 3 rfl rfl rfl Tryz.isAgg135 rfl rfl ?_
  refine bt rfl (fun _ => aK Tryz.underlying135 _ _ _ _) rfl rfl ?_
  refine rTH ?_
  refine aj ?_
  obtain ⟨F0, hF0⟩ : ∃ F0, F0 = K12.mul (SK W k).2 (SK W k).2 := ⟨_, rfl⟩
  refine cy (ι := { j : Nat // j ≤ 0 }) (fun y => [(2, .pointer (some ⟨b2, 0, none⟩)), (3, .pointer (some ⟨b3, 0, none⟩)), (4, .pointer (some ⟨b4, 0, none⟩)), (5, .bool (DGb k)), (16, I ((0 : Nat) : Int)), (17, I (y.1 : Int))]) (fun y => [(2, b2, (((fe 0 ++ fe 0) ++ ((fe 0 ++ fe 0) ++ (fe 0 ++ fe 0))) ++ ((fe 0 ++ fe 0) ++ ((fe 0 ++ fe 0) ++ (fe 0 ++ fe 0)))).map U64, 49), (3, b3, [.slice none 0 0], 135), (4, b4, gL (cX rDb ((SK W k).1.take y.1) F0), 49)]) (fun y => 0 - y.1) ⟨0, Nat.zero_le _⟩ (hR (pl w) rfl hGF).2.1 ⟨rfl, rfl, rfl, rfl, rfl, rfl, trivial⟩ ⟨rfl, rfl, by rw [hF0]; rfl, trivial⟩ ?_
  rintro ⟨j, hj⟩
  dsimp only
  obtain rfl : j = 0 := by omega
  refine ab (E := EE [111, 113, 115]) ?_
  refine bK false rfl rfl (fun _ => rfl) (fun _ => aQ _ _ _) (rfl) rfl rfl ?_
  refine aa ?_
  refine ao ?_
  refine bl rfl ?_
  refine aW ?_
  rw [show (SK W k).1.take 0 = (SK W k).1 from by rw [hW0 k (by omega)]; rfl, hF0]
  clear hF0
  refine ao ?_
  refine ab (E := EE [111, 113, 115]) ?_
  refine rTH ?_
  refine bx rfl (fun _ => bf _) rfl rfl ?_
  refine aa ?_
  refine bM rfl (fun hc => ?_) (fun hc => ?_)
  ·have hd : DGb k = false := by simpa using hc
   refine aW ?_
   repeat (first | refine aO ?_ | refine bJ ?_)
   exact ⟨_, rfl, ⟨rfl, rfl, by first | (rw [m6 W hk hd]; rfl) | (rw [mw W hk hd]; rfl), trivial⟩⟩
  ·have hd : DGb k = true := by simpa using hc
   refine az ?_
   refine ab (E := EE [111, 113, 115]) ?_
   refine bR 3 rfl rfl rfl Tryz.isAgg135 rfl rfl ?_
   refine bt rfl (fun _ => aK Tryz.underlying135 _ _ _ _) rfl rfl ?_
   refine rTH ?_
   refine aj ?_
   obtain ⟨F0, hF0⟩ : ∃ F0, F0 = cX rDb (SK W k).1 (K12.mul (SK W k).2 (SK W k).2) := ⟨_, rfl⟩
   refine cy (ι := { j : Nat // j ≤ 0 }) (fun y => [(2, .pointer (some ⟨b2, 0, none⟩)), (3, .pointer (some ⟨b3, 0, none⟩)), (4, .pointer (some ⟨b4, 0, none⟩)), (5, .bool (DGb k)), (30, I ((0 : Nat) : Int)), (31, I (y.1 : Int))]) (fun y => [(2, b2, (((fe 0 ++ fe 0) ++ ((fe 0 ++ fe 0) ++ (fe 0 ++ fe 0))) ++ ((fe 0 ++ fe 0) ++ ((fe 0 ++ fe 0) ++ (fe 0 ++ fe 0)))).map U64, 49), (3, b3, [.slice none 0 0], 135), (4, b4, gL (cX rJn (((SK W k).1.map wDb).take y.1) F0), 49)]) (fun y => 0 - y.1) ⟨0, Nat.zero_le _⟩ (hR (pl w) rfl hGF).2.1 ⟨rfl, rfl, rfl, rfl, rfl, rfl, trivial⟩ ⟨rfl, rfl, by rw [hF0]; rfl, trivial⟩ ?_
   rintro ⟨j, hj⟩
   dsimp only
   obtain rfl : j = 0 := by omega
   refine ab (E := EE [111, 113, 115]) ?_
   refine bK false rfl rfl (fun _ => rfl) (fun _ => aQ _ _ _) (rfl) rfl rfl ?_
   refine aa ?_
   refine ao ?_
   refine bl rfl ?_
   refine aW ?_
   rw [show ((SK W k).1.map wDb).take 0 = ((SK W k).1.map wDb) from by rw [hW0 k (by omega)]; rfl, hF0]
   clear hF0
   repeat (first | refine aO ?_ | refine bJ ?_)
   exact ⟨_, rfl, ⟨rfl, rfl, by first | (rw [m6 W hk hd]; rfl) | (rw [mw W hk hd]; rfl), trivial⟩⟩
 ·intro D hD
  rw [gH]
  refine ab (E := EE [111, 113, 115]) ?_
  refine rTH ?_
  refine am 2 hD rfl rfl rfl Tryz.sizeOf49 (by simp) (by simp) (ak _) rfl ?_
  refine aa ?_
  refine ez ?_
  repeat (first | refine aY ?_ | refine aX ?_ | refine dH ?_)
  exact cn (.inl rfl) ai (av 2 rfl rfl rfl Tryz.isAgg49 Tryz.sizeOf49 (by simp) (fun w hw => ⟨rfl, ah hw⟩))
end Q6
end Go.Proofs.YtpnpiblphnpfiaaGreatDoor
