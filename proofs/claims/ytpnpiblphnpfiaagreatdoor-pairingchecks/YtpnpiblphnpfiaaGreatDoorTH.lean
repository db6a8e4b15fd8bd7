/-
 The program's Loop.
-/
import Derived.Test.YtpnpiblphnpfiaaGreatDoorTG
import Derived.Test.YtpnpiblphnpfiaaGreatDoorX5
namespace Go.Proofs.YtpnpiblphnpfiaaGreatDoor
open Go.RowKit
set_option maxRecDepth 100000
set_option maxHeartbeats 1000000
attribute [local simp] aL ba aI aH aB bc aF aE aG PLl cf cb N1l ca bY ce aR a9 aJ aW a5 J1.bd J2.bd Q6.bQ
theorem rTH {Q P : Prop} (k : Q) (h : Q → P := by intro k; (refine LY.run ?_); (repeat (first | refine bK rfl rfl rfl ?_ | refine bk rfl rfl rfl ?_ | ((refine vS rfl rfl ?_ rfl rfl ?_); (· simp)) | ((refine o8 hGF rfl rfl rfl ?_ ?_ (ak _) rfl ?_); (· simp); (· simp)) | refine bP (f := 41) rfl rfl ent41 (jp _) rfl rfl ?_ | refine bP (f := 22) rfl rfl ent22 (iy) rfl rfl ?_ | refine bP (f := 112) rfl rfl ent112 (pj) rfl rfl ?_ | refine bP (f := 82) rfl rfl ent82 (gC _) rfl rfl ?_)); (first | refine cn ?_ | refine LY.mk ?_); exact k) : P := h k

namespace Q6
abbrev gK (x : W12) : List Value := (((fe ((x).1.1).1 ++ fe ((x).1.1).2) ++ ((fe ((x).1.2.1).1 ++ fe ((x).1.2.1).2) ++ (fe ((x).1.2.2).1 ++ fe ((x).1.2.2).2))) ++ ((fe ((x).2.1).1 ++ fe ((x).2.1).2) ++ ((fe ((x).2.2.1).1 ++ fe ((x).2.2.1).2) ++ (fe ((x).2.2.2).1 ++ fe ((x).2.2.2).2)))).map U64
theorem gZ (x : W12) : (gK x).length = 72 := by simp
def mkC (fs : List Nat) (o : Oper) : Bool := match o.op with
 | .call { callee := .value (.func f), .. } => fs.any (Nat.beq f)
 | _ => false
def SK (W : List WK) (k : Nat) : List WK × W12 := rdK (D63.take k) (W, K12.one)
theorem GO (W : List WK) {k : Nat} (h : k < 63) : SK W (k + 1) = rdF (DGb k) (SK W k) := by rw [SK, km h, q9]; rfl
theorem mS (W : List WK) {k : Nat} (h : k < 63) (hd : DGb k = false) : SK W (k + 1) = ((SK W k).1.map wDb, cR rDb (SK W k).1 (K12.mul (SK W k).2 (SK W k).2)) := by rw [GO W h, hd]; rfl
theorem mL (W : List WK) {k : Nat} (h : k < 63) (hd : DGb k = true) : SK W (k + 1) = (((SK W k).1.map wDb).map wJn, cR rJn ((SK W k).1.map wDb) (cR rDb (SK W k).1 (K12.mul (SK W k).2 (SK W k).2))) := by rw [GO W h, hd]; rfl
theorem fT (W : List WK) : ∀ k, k ≤ 63 → (SK W k).1.length = W.length
 | 0, _ => rfl
 | k + 1, h => by
  have ih := fT W k (by omega)
  cases d : DGb k with
  | false => rw [mS W (by omega) d, List.length_map]; exact ih
  | true => rw [mL W (by omega) d, List.length_map, List.length_map]; exact ih
theorem iP (g : WK → W6) : ∀ (l : List WK) (w : WK) (f : W12), cR g (l ++ [w]) f = K12.mul (lel (g w)) (cR g l f)
 | [], _, _ => rfl
 | v :: l, w, f => iP g l w (K12.mul (lel (g v)) f)
theorem pu {l : List WK} {j : Nat} {w : WK} (h : l[j]? = some w) : l.take (j + 1) = l.take j ++ [w] := by rw [List.take_add_one, h]; rfl
theorem Ck {l : List WK} {j : Nat} {w : WK} (h : l[j]? = some w) : l.drop j = w :: l.drop (j + 1) := by
 have hj := (List.getElem?_eq_some_iff.1 h).1
 rw [List.drop_eq_getElem_cons hj]
 exact congrArg (· :: _) (List.getElem?_eq_some_iff.1 h).2
def upW (g : WK → WK) (l : List WK) (j : Nat) : List WK := (l.take j).map g ++ l.drop j
theorem FG {g : WK → WK} {l : List WK} {j : Nat} {w : WK} (h : l[j]? = some w) (post : List Value) : wcl (upW g l j) ++ post = wcl ((l.take j).map g) ++ (clv (fQ w) ++ (wcl (l.drop (j + 1)) ++ post)) := by
 rw [upW, Ck h, jw, jC]
 simp only [List.append_assoc]
theorem FH {g : WK → WK} {l : List WK} {j : Nat} {w : WK} (h : l[j]? = some w) (post : List Value) : wcl (upW g l (j + 1)) ++ post = wcl ((l.take j).map g) ++ (clv (fQ (g w)) ++ (wcl (l.drop (j + 1)) ++ post)) := by
 rw [upW, pu h, List.map_append, jw, jw, show [w].map g = [g w] from rfl, qG]
 simp only [List.append_assoc]
theorem EA {g : WK → WK} {l : List WK} {j : Nat} {w : WK} (h : l[j]? = some w) : (wcl ((l.take j).map g)).length = 0 + 72 * j := by
 have hj := (List.getElem?_eq_some_iff.1 h).1
 rw [me, List.length_map, List.length_take, Nat.min_eq_left (by omega), Nat.zero_add]
theorem Fk (g : WK → WK) (l : List WK) : upW g l 0 = l := rfl
theorem zM (g : WK → WK) {l : List WK} {j : Nat} (h : l.length = j) : upW g l j = l.map g := by
 rw [upW, List.take_of_length_le (by omega), List.drop_eq_nil_of_le (by omega), List.append_nil]
theorem G4 {f : FuncId} {g : WK → WK} {u : WK → W6} {l : List WK} {j : Nat} {w : WK} (h : l[j]? = some w) {b : Nat} {post : List Value} {W : World} (ho : OwnB W b (wcl (upW g l j) ++ post) 141)
  (hc : ∀ {pre post : List Value}, OwnB W b (pre ++ (clv (fQ w) ++ post)) 141 → Calls Tryz.prog f [.pointer (some ⟨b, pre.length, none⟩)].toArray W (fun e W' => e = .returned (EV6 (u w)) ∧ Mod b W W' ∧ OwnB W' b (pre ++ (clv (fQ (g w)) ++ post)) 141)) :
  Calls Tryz.prog f [.pointer (some ⟨b, 0 + 72 * j, none⟩)].toArray W (fun e W' => e = .returned (EV6 (u w)) ∧ Mod b W W' ∧ OwnB W' b (wcl (upW g l (j + 1)) ++ post) 141) := by
 rw [FG h] at ho
 have k := hc ho
 rw [EA h] at k
 rw [FH h]
 exact k
theorem AR {l : List WK} {j : Nat} {w : WK} (h : l[j]? = some w) {b : Nat} {post : List Value} {W : World} (hw : Gt W) (hb : 5 ≤ b) (ho : OwnB W b (wcl (upW wDb l j) ++ post) 141) : Calls Tryz.prog 113 [.pointer (some ⟨b, 0 + 72 * j, none⟩)].toArray W (fun e W' => e = .returned (EV6 (rDb w)) ∧ Mod b W W' ∧ OwnB W' b (wcl (upW wDb l (j + 1)) ++ post) 141) := G4 h ho (fun {_ _} k => mdbl w hw hb k)
theorem FJ {l : List WK} {j : Nat} {w : WK} (h : l[j]? = some w) {b : Nat} {post : List Value} {W : World} (hz : ¬ w.2.2.2.2 = ze2) (hw : Gt W) (hb : 5 ≤ b) (ho : OwnB W b (wcl (upW wJn l j) ++ post) 141) : Calls Tryz.prog 115 [.pointer (some ⟨b, 0 + 72 * j, none⟩)].toArray W (fun e W' => e = .returned (EV6 (rJn w)) ∧ Mod b W W' ∧ OwnB W' b (wcl (upW wJn l (j + 1)) ++ post) 141) := G4 h ho (fun {_ _} k => mjn w hz hw hb k)
theorem BG (W : List WK) (n b cap : Nat) (cs : List Value) (hWl : W.length ≤ 1000) (hZ : ∀ k, k < 63 → DGb k = true → ∀ w ∈ (SK W k).1.map wDb, ¬ w.2.2.2.2 = ze2) (hB : ∀ w', Gt w' → w'.rangeAt b 0 cs → Calls Tryz.prog 111 [.slice (some ⟨b, 0, none⟩) n cap].toArray w' (fun r w'' => ∃ bW post capW, r = .returned (.slice (some ⟨bW, 0, none⟩) W.length capW) ∧ Grow w' w'' ∧ w'.heap.size ≤ bW ∧ OwnB w'' bW (wcl W ++ post) 141)) (w : World) (hw : Gt w) (h : w.rangeAt b 0 cs) :
  Calls Tryz.prog 55 [.slice (some ⟨b, 0, none⟩) n cap].toArray w (fun r w' => r = .returned (bu (bq (SK W 63).2)) ∧ Grow w w') := by
 have hGF : BOk Gt (pl w) := gt_low.plain hw
 refine bE (G := Gt) Tryz.func55 rfl rfl (Hp (pl w) []) (aZ (pl w) trivial ai) (ap hGF) ?_
 refine ab (E := EE [111, 113, 115]) ?_
 refine la zv49 fun b2 => ?_
 refine aa ?_
 refine fB ?_
 refine ab (E := EE [111, 113, 115]) ?_
 refine rTH ?_
 refine cz rfl rfl ent111 rfl rfl (fun w' hw' => (hB w' (hGF.g _ _ _ hw') (dN h (fun h => h) w' hw')).mono fun e' w'' h' => ?_)
 obtain ⟨bW, post, capW, rfl, hg, hbD, hoD⟩ := h'
 have hb3 : 5 ≤ bW := Nat.le_trans (yM (hGF.g _ _ _ hw')) hbD
 refine ⟨_, _, rfl, ap hGF, hw'.news ai hg [(50, bW, wcl W ++ post, 141)] ?_ di, ?_⟩
 ·intro n' b' c' t' hl
  rcases bh hl with ⟨_, e⟩ | ⟨_, hl⟩
  ·cases e; exact ⟨hbD, hoD⟩
  ·cases hl
 clear hw' hg hbD hoD
 refine dI 3 hGF Tryz.zeroValue135 rfl rfl ?_
 intro b3
 refine cu 3 hGF rfl rfl rfl Tryz.sizeOf135 rfl (by first | decide | simp) rfl ?_
 refine aa ?_
 refine ab (E := EE [111, 113, 115]) ?_
 refine rTH ?_
 refine la zv49 fun b4 => ?_
 refine rTH ?_
 refine aj ?_
 refine fA ?_
 refine aj ?_
 refine ab (E := EE [111, 113, 115]) ?_
 refine rTH ?_
 refine am ?_
 refine db (fun _ => pl w) (fun _ _ => pl w) (fun _ => hGF) (fun _ _ => hGF) (fun _ => rfl) (fun _ _ => rfl) rfl rfl ent158 io (fun x hx => by obtain ⟨k, hk, rfl⟩ := List.mem_map.1 hx; rfl) rfl (fun k => [(2, b2, (((fe 0 ++ fe 0) ++ ((fe 0 ++ fe 0) ++ (fe 0 ++ fe 0))) ++ ((fe 0 ++ fe 0) ++ ((fe 0 ++ fe 0) ++ (fe 0 ++ fe 0)))).map U64, 49), (3, b3, [.slice (some ⟨bW, 0, none⟩) W.length capW], 135), (4, b4, gK ((SK W k).2), 49), (50, bW, wcl ((SK W k).1) ++ post, 141)]) (fun _ _ _ => False) ⟨rfl, rfl, rfl, rfl, trivial⟩ (fun _ _ _ _ => trivial) ?_ ?_ (fun _ _ _ _ _ h => h.elim)
 ·intro k v hx R hR
  obtain ⟨hk, rfl⟩ := m6 hx
  refine av (E := EE [111, 113, 115]) ?_
  refine rTH ?_
  refine ⟨rfl, _, rfl, ?_⟩
  refine am ?_
  refine ab (E := EE [111, 113, 115]) ?_
  refine rTH ?_
  refine ao 4 (hR (pl w) rfl hGF).2.1 rfl rfl rfl Tryz.sizeOf49 (by simp) (by simp) (ak _) rfl ?_
  refine aa ?_
  refine aj ?_
  refine ab (E := EE [111, 113, 115]) ?_
  refine bT 3 rfl rfl rfl Tryz.isAgg135 rfl rfl ?_
  refine aX rfl (fun _ => au Tryz.underlying135 _ _ _ _) rfl rfl ?_
  refine rTH ?_
  refine am ?_
  obtain ⟨F0, hF0⟩ : ∃ F0, F0 = K12.mul (SK W k).2 (SK W k).2 := ⟨_, rfl⟩
  refine cp (ι := { j : Nat // j ≤ W.length }) (fun y => [(2, .pointer (some ⟨b2, 0, none⟩)), (3, .pointer (some ⟨b3, 0, none⟩)), (4, .pointer (some ⟨b4, 0, none⟩)), (5, .bool (DGb k)), (16, I ((W.length : Nat) : Int)), (17, I (y.1 : Int))]) (fun y => [(2, b2, (((fe 0 ++ fe 0) ++ ((fe 0 ++ fe 0) ++ (fe 0 ++ fe 0))) ++ ((fe 0 ++ fe 0) ++ ((fe 0 ++ fe 0) ++ (fe 0 ++ fe 0)))).map U64, 49), (3, b3, [.slice (some ⟨bW, 0, none⟩) W.length capW], 135), (4, b4, gK (cR rDb ((SK W k).1.take y.1) F0), 49), (50, bW, wcl (upW wDb (SK W k).1 y.1) ++ post, 141)]) (fun y => W.length - y.1) ⟨0, Nat.zero_le _⟩ (hR (pl w) rfl hGF).2.1 ⟨rfl, rfl, rfl, rfl, rfl, rfl, trivial⟩ ⟨rfl, rfl, by rw [hF0]; rfl, rfl, trivial⟩ ?_
  rintro ⟨j, hj⟩
  dsimp only
  refine ab (E := EE [111, 113, 115]) ?_
  refine ah rfl rfl (fun _ => rfl) (fun _ => aA _ _ _) rfl rfl ?_
  refine aa ?_
  refine aj ?_
  refine bZ rfl (fun hc => ?_) (fun hc => ?_)
  ·have hj2 : j < W.length := by simp at hc; omega
   obtain ⟨wj, hwj⟩ : ∃ wj, (SK W k).1[j]? = some wj := ⟨_, List.getElem?_eq_getElem (by rw [fT W k (by omega)]; exact hj2)⟩
   refine aD ?_
   refine aj ?_
   refine am ?_
   refine ab (E := EE [111, 113, 115]) ?_
   refine rTH ?_
   refine mT (E := EE [111, 113, 115]) (fun X => X = Hp (R.b (pl w)) [(4, b4, gK (cR rDb ((SK W k).1.take j) F0), 49)]) (mkC [113]) (rkB [24]) [0, 1, 2, 4, 3, 5, 6] bi rfl (by kernel_rfl) (by kernel_rfl) (by kernel_rfl) ?_
   refine i3 rfl rfl ?_
   refine bT 3 rfl rfl rfl Tryz.isAgg135 rfl rfl ?_
   refine aa ?_
   refine i3 rfl rfl ?_
   refine rTH ?_
   refine i3 rfl rfl ?_
   refine kJ (s := 72) j rfl rfl Tryz.underlying135 Tryz.sizeOf141 (by omega) (by omega) rfl rfl ?_
   refine aa ?_
   refine ry (X := Hp (R.b (pl w)) [(4, b4, gK (cR rDb ((SK W k).1.take j) F0), 49)]) rfl (eU (hR (pl w) rfl hGF).2.1.r ⟨rfl, trivial⟩) (fun _ => rfl) ?_
   refine ay 4 rfl rfl Tryz.isAgg49 Tryz.sizeOf49 (gZ _) rfl rfl ?_
   refine aa ?_
   refine nL rfl ?_
   refine cz rfl rfl ent113 rfl rfl (fun w' hw' => (AR hwj ((hR (pl w) rfl hGF).2.1.g _ _ _ hw') hb3 (hw'.own 50 _ _ _ rfl).1).mono fun e' w'' h' => ?_)
   obtain ⟨rfl, hm, ho⟩ := h'
   refine ⟨_, _, rfl, ap (hR (pl w) rfl hGF).2.1, hw'.mod (hR (pl w) rfl hGF).2.1.r (n := 50) rfl hm ho, ?_⟩
   clear hw' hm ho
   refine aa ?_
   refine ⟨fun _ X hX _ => by subst hX; exact eU (hR (pl w) rfl hGF).2.1.r ⟨rfl, trivial⟩, ?_⟩
   refine i3 rfl rfl ?_
   refine az rfl rfl ent114 (pV (rDb wj) (cR rDb ((SK W k).1.take j) F0)) rfl rfl ?_
   refine aa ?_
   refine nL rfl ?_
   refine ao 4 (hR (pl w) rfl hGF).2.1 rfl rfl rfl Tryz.sizeOf49 (by simp) (gZ _) (ak _) rfl ?_
   refine aa ?_
   refine ⟨fun h => Bool.noConfusion h, ?_⟩
   refine mz ?_
   refine av (E := EE [111, 113, 115]) ?_
   refine ah rfl rfl (fun _ => rfl) (fun _ => aO _ _ _ (by unfold inI; omega)) rfl rfl ?_
   refine rTH ?_
   repeat (refine a6 ?_)
   refine bC ?_
   have eF : K12.mul (lel (rDb wj)) (cR rDb ((SK W k).1.take j) F0) = cR rDb ((SK W k).1.take (j + 1)) F0 := by rw [pu hwj, iP]
   exact ⟨rfl, ⟨j + 1, by omega⟩, _, by show W.length - (j + 1) < W.length - j; omega, rfl, ⟨rfl, rfl, rfl, rfl, rfl, rfl, trivial⟩, ⟨rfl, rfl, by rw [← eF]; rfl, rfl, trivial⟩⟩
  ·obtain rfl : j = W.length := by simp at hc; omega
   refine bf ?_
   rw [zM wDb (by rw [fT W k (by omega)]), List.take_of_length_le (Nat.le_of_eq (by rw [fT W k (by omega)])), hF0]
   clear hF0
   refine aj ?_
   refine ab (E := EE [111, 113, 115]) ?_
   refine rTH ?_
   refine bH rfl (fun _ => bt _) rfl rfl ?_
   refine aa ?_
   refine bZ rfl (fun hc => ?_) (fun hc => ?_)
   ·have hd : DGb k = false := by simpa using hc
    refine bf ?_
    repeat (first | refine a6 ?_ | refine bX ?_)
    exact ⟨_, rfl, ⟨rfl, rfl, by first | (rw [mS W hk hd]; rfl) | (rw [mL W hk hd]; rfl), by first | (rw [mS W hk hd]; rfl) | (rw [mL W hk hd]; rfl), trivial⟩⟩
   ·have hd : DGb k = true := by simpa using hc
    refine aD ?_
    refine ab (E := EE [111, 113, 115]) ?_
    refine bT 3 rfl rfl rfl Tryz.isAgg135 rfl rfl ?_
    refine aX rfl (fun _ => au Tryz.underlying135 _ _ _ _) rfl rfl ?_
    refine rTH ?_
    refine am ?_
    obtain ⟨F0, hF0⟩ : ∃ F0, F0 = cR rDb (SK W k).1 (K12.mul (SK W k).2 (SK W k).2) := ⟨_, rfl⟩
    refine cp (ι := { j : Nat // j ≤ W.length }) (fun y => [(2, .pointer (some ⟨b2, 0, none⟩)), (3, .pointer (some ⟨b3, 0, none⟩)), (4, .pointer (some ⟨b4, 0, none⟩)), (5, .bool (DGb k)), (30, I ((W.length : Nat) : Int)), (31, I (y.1 : Int))]) (fun y => [(2, b2, (((fe 0 ++ fe 0) ++ ((fe 0 ++ fe 0) ++ (fe 0 ++ fe 0))) ++ ((fe 0 ++ fe 0) ++ ((fe 0 ++ fe 0) ++ (fe 0 ++ fe 0)))).map U64, 49), (3, b3, [.slice (some ⟨bW, 0, none⟩) W.length capW], 135), (4, b4, gK (cR rJn (((SK W k).1.map wDb).take y.1) F0), 49), (50, bW, wcl (upW wJn ((SK W k).1.map wDb) y.1) ++ post, 141)]) (fun y => W.length - y.1) ⟨0, Nat.zero_le _⟩ (hR (pl w) rfl hGF).2.1 ⟨rfl, rfl, rfl, rfl, rfl, rfl, trivial⟩ ⟨rfl, rfl, by rw [hF0]; rfl, by rw [Fk]; rfl, trivial⟩ ?_
    rintro ⟨j, hj⟩
    dsimp only
    refine ab (E := EE [111, 113, 115]) ?_
    refine ah rfl rfl (fun _ => rfl) (fun _ => aA _ _ _) rfl rfl ?_
    refine aa ?_
    refine aj ?_
    refine bZ rfl (fun hc => ?_) (fun hc => ?_)
    ·have hj2 : j < W.length := by simp at hc; omega
     obtain ⟨wj, hwj⟩ : ∃ wj, ((SK W k).1.map wDb)[j]? = some wj := ⟨_, List.getElem?_eq_getElem (by rw [List.length_map, fT W k (by omega)]; exact hj2)⟩
     refine aD ?_
     refine aj ?_
     refine am ?_
     refine ab (E := EE [111, 113, 115]) ?_
     refine rTH ?_
     refine mT (E := EE [111, 113, 115]) (fun X => X = Hp (R.b (pl w)) [(4, b4, gK (cR rJn (((SK W k).1.map wDb).take j) F0), 49)]) (mkC [115]) (rkB [38]) [0, 1, 2, 4, 3, 5, 6] bi rfl (by kernel_rfl) (by kernel_rfl) (by kernel_rfl) ?_
     refine i3 rfl rfl ?_
     refine bT 3 rfl rfl rfl Tryz.isAgg135 rfl rfl ?_
     refine aa ?_
     refine i3 rfl rfl ?_
     refine rTH ?_
     refine i3 rfl rfl ?_
     refine kJ (s := 72) j rfl rfl Tryz.underlying135 Tryz.sizeOf141 (by omega) (by omega) rfl rfl ?_
     refine aa ?_
     refine ry (X := Hp (R.b (pl w)) [(4, b4, gK (cR rJn (((SK W k).1.map wDb).take j) F0), 49)]) rfl (eU (hR (pl w) rfl hGF).2.1.r ⟨rfl, trivial⟩) (fun _ => rfl) ?_
     refine ay 4 rfl rfl Tryz.isAgg49 Tryz.sizeOf49 (gZ _) rfl rfl ?_
     refine aa ?_
     refine nL rfl ?_
     refine cz rfl rfl ent115 rfl rfl (fun w' hw' => (FJ hwj (hZ k hk hd _ (List.mem_of_getElem? hwj)) ((hR (pl w) rfl hGF).2.1.g _ _ _ hw') hb3 (hw'.own 50 _ _ _ rfl).1).mono fun e' w'' h' => ?_)
     obtain ⟨rfl, hm, ho⟩ := h'
     refine ⟨_, _, rfl, ap (hR (pl w) rfl hGF).2.1, hw'.mod (hR (pl w) rfl hGF).2.1.r (n := 50) rfl hm ho, ?_⟩
     clear hw' hm ho
     refine aa ?_
     refine ⟨fun _ X hX _ => by subst hX; exact eU (hR (pl w) rfl hGF).2.1.r ⟨rfl, trivial⟩, ?_⟩
     refine i3 rfl rfl ?_
     refine az rfl rfl ent114 (pV (rJn wj) (cR rJn (((SK W k).1.map wDb).take j) F0)) rfl rfl ?_
     refine aa ?_
     refine nL rfl ?_
     refine ao 4 (hR (pl w) rfl hGF).2.1 rfl rfl rfl Tryz.sizeOf49 (by simp) (gZ _) (ak _) rfl ?_
     refine aa ?_
     refine ⟨fun h => Bool.noConfusion h, ?_⟩
     refine mz ?_
     refine av (E := EE [111, 113, 115]) ?_
     refine ah rfl rfl (fun _ => rfl) (fun _ => aO _ _ _ (by unfold inI; omega)) rfl rfl ?_
     refine rTH ?_
     repeat (refine a6 ?_)
     refine bC ?_
     have eF : K12.mul (lel (rJn wj)) (cR rJn (((SK W k).1.map wDb).take j) F0) = cR rJn (((SK W k).1.map wDb).take (j + 1)) F0 := by rw [pu hwj, iP]
     exact ⟨rfl, ⟨j + 1, by omega⟩, _, by show W.length - (j + 1) < W.length - j; omega, rfl, ⟨rfl, rfl, rfl, rfl, rfl, rfl, trivial⟩, ⟨rfl, rfl, by rw [← eF]; rfl, rfl, trivial⟩⟩
    ·obtain rfl : j = W.length := by simp at hc; omega
     refine bf ?_
     rw [zM wJn (by rw [List.length_map, fT W k (by omega)]), List.take_of_length_le (Nat.le_of_eq (by rw [List.length_map, fT W k (by omega)])), hF0]
     clear hF0
     repeat (first | refine a6 ?_ | refine bX ?_)
     exact ⟨_, rfl, ⟨rfl, rfl, by first | (rw [mS W hk hd]; rfl) | (rw [mL W hk hd]; rfl), by first | (rw [mS W hk hd]; rfl) | (rw [mL W hk hd]; rfl), trivial⟩⟩
 ·intro D hD
  rw [gE]
  refine ab (E := EE [111, 113, 115]) ?_
  refine rTH ?_
  refine ao 2 hD rfl rfl rfl Tryz.sizeOf49 (by simp) (by simp) (ak _) rfl ?_
  refine aa ?_
  refine cG ?_
  repeat (first | refine aQ ?_ | refine aP ?_ | refine bO ?_)
  exact cr (.inl rfl) ai (aw 2 rfl rfl rfl Tryz.isAgg49 Tryz.sizeOf49 (by simp) (fun w hw => ⟨rfl, ac hw⟩))
theorem DM (W : List WK) (n b cap : Nat) (cs : List Value) (hW0 : ∀ k, k ≤ 63 → (SK W k).1 = []) (hB : ∀ w', Gt w' → w'.rangeAt b 0 cs → Calls Tryz.prog 111 [.slice (some ⟨b, 0, none⟩) n cap].toArray w' (fun r w'' => r = .returned (.slice none 0 0) ∧ Grow w' w'')) (w : World) (hw : Gt w) (h : w.rangeAt b 0 cs) :
  Calls Tryz.prog 55 [.slice (some ⟨b, 0, none⟩) n cap].toArray w (fun r w' => r = .returned (bu (bq (SK W 63).2)) ∧ Grow w w') := by
 have hGF : BOk Gt (pl w) := gt_low.plain hw
 refine bE (G := Gt) Tryz.func55 rfl rfl (Hp (pl w) []) (aZ (pl w) trivial ai) (ap hGF) ?_
 refine ab (E := EE [111, 113, 115]) ?_
 refine la zv49 fun b2 => ?_
 refine aa ?_
 refine fB ?_
 refine ab (E := EE [111, 113, 115]) ?_
 refine rTH ?_
 refine cz rfl rfl ent111 rfl rfl (fun w' hw' => (hB w' (hGF.g _ _ _ hw') (dN h (fun h => h) w' hw')).mono fun e' w'' h' => ?_)
 obtain ⟨rfl, hg⟩ := h'
 refine ⟨_, _, rfl, ap hGF, hw'.grow ai hg, ?_⟩
 clear hw' hg
 refine dI 3 hGF Tryz.zeroValue135 rfl rfl ?_
 intro b3
 refine cu 3 hGF rfl rfl rfl Tryz.sizeOf135 rfl (by first | decide | simp) rfl ?_
 refine aa ?_
 refine ab (E := EE [111, 113, 115]) ?_
 refine rTH ?_
 refine la zv49 fun b4 => ?_
 refine rTH ?_
 refine aj ?_
 refine fA ?_
 refine aj ?_
 refine ab (E := EE [111, 113, 115]) ?_
 refine rTH ?_
 refine am ?_
 refine db (fun _ => pl w) (fun _ _ => pl w) (fun _ => hGF) (fun _ _ => hGF) (fun _ => rfl) (fun _ _ => rfl) rfl rfl ent158 io (fun x hx => by obtain ⟨k, hk, rfl⟩ := List.mem_map.1 hx; rfl) rfl (fun k => [(2, b2, (((fe 0 ++ fe 0) ++ ((fe 0 ++ fe 0) ++ (fe 0 ++ fe 0))) ++ ((fe 0 ++ fe 0) ++ ((fe 0 ++ fe 0) ++ (fe 0 ++ fe 0)))).map U64, 49), (3, b3, [.slice none 0 0], 135), (4, b4, gK ((SK W k).2), 49)]) (fun _ _ _ => False) ⟨rfl, rfl, rfl, trivial⟩ (fun _ _ _ _ => trivial) ?_ ?_ (fun _ _ _ _ _ h => h.elim)
 ·intro k v hx R hR
  obtain ⟨hk, rfl⟩ := m6 hx
  refine av (E := EE [111, 113, 115]) ?_
  refine rTH ?_
  refine ⟨rfl, _, rfl, ?_⟩
  refine am ?_
  refine ab (E := EE [111, 113, 115]) ?_
  refine rTH ?_
  refine ao 4 (hR (pl w) rfl hGF).2.1 rfl rfl rfl Tryz.sizeOf49 (by simp) (by simp) (ak _) rfl ?_
  refine aa ?_
  refine aj ?_
  refine ab (E := EE [111, 113, 115]) ?_
  refine bT 3 rfl rfl rfl Tryz.isAgg135 rfl rfl ?_
  refine aX rfl (fun _ => au Tryz.underlying135 _ _ _ _) rfl rfl ?_
  refine rTH ?_
  refine am ?_
  obtain ⟨F0, hF0⟩ : ∃ F0, F0 = K12.mul (SK W k).2 (SK W k).2 := ⟨_, rfl⟩
  refine cp (ι := { j : Nat // j ≤ 0 }) (fun y => [(2, .pointer (some ⟨b2, 0, none⟩)), (3, .pointer (some ⟨b3, 0, none⟩)), (4, .pointer (some ⟨b4, 0, none⟩)), (5, .bool (DGb k)), (16, I ((0 : Nat) : Int)), (17, I (y.1 : Int))]) (fun y => [(2, b2, (((fe 0 ++ fe 0) ++ ((fe 0 ++ fe 0) ++ (fe 0 ++ fe 0))) ++ ((fe 0 ++ fe 0) ++ ((fe 0 ++ fe 0) ++ (fe 0 ++ fe 0)))).map U64, 49), (3, b3, [.slice none 0 0], 135), (4, b4, gK (cR rDb ((SK W k).1.take y.1) F0), 49)]) (fun y => 0 - y.1) ⟨0, Nat.zero_le _⟩ (hR (pl w) rfl hGF).2.1 ⟨rfl, rfl, rfl, rfl, rfl, rfl, trivial⟩ ⟨rfl, rfl, by rw [hF0]; rfl, trivial⟩ ?_
  rintro ⟨j, hj⟩
  dsimp only
  obtain rfl : j = 0 := by omega
  refine ab (E := EE [111, 113, 115]) ?_
  refine aM false rfl rfl (fun _ => rfl) (fun _ => aA _ _ _) (rfl) rfl rfl ?_
  refine aa ?_
  refine aj ?_
  refine bg rfl ?_
  refine bf ?_
  rw [show (SK W k).1.take 0 = (SK W k).1 from by rw [hW0 k (by omega)]; rfl, hF0]
  clear hF0
  refine aj ?_
  refine ab (E := EE [111, 113, 115]) ?_
  refine rTH ?_
  refine bH rfl (fun _ => bt _) rfl rfl ?_
  refine aa ?_
  refine bZ rfl (fun hc => ?_) (fun hc => ?_)
  ·have hd : DGb k = false := by simpa using hc
   refine bf ?_
   repeat (first | refine a6 ?_ | refine bX ?_)
   exact ⟨_, rfl, ⟨rfl, rfl, by first | (rw [mS W hk hd]; rfl) | (rw [mL W hk hd]; rfl), trivial⟩⟩
  ·have hd : DGb k = true := by simpa using hc
   refine aD ?_
   refine ab (E := EE [111, 113, 115]) ?_
   refine bT 3 rfl rfl rfl Tryz.isAgg135 rfl rfl ?_
   refine aX rfl (fun _ => au Tryz.underlying135 _ _ _ _) rfl rfl ?_
   refine rTH ?_
   refine am ?_
   obtain ⟨F0, hF0⟩ : ∃ F0, F0 = cR rDb (SK W k).1 (K12.mul (SK W k).2 (SK W k).2) := ⟨_, rfl⟩
   refine cp (ι := { j : Nat // j ≤ 0 }) (fun y => [(2, .pointer (some ⟨b2, 0, none⟩)), (3, .pointer (some ⟨b3, 0, none⟩)), (4, .pointer (some ⟨b4, 0, none⟩)), (5, .bool (DGb k)), (30, I ((0 : Nat) : Int)), (31, I (y.1 : Int))]) (fun y => [(2, b2, (((fe 0 ++ fe 0) ++ ((fe 0 ++ fe 0) ++ (fe 0 ++ fe 0))) ++ ((fe 0 ++ fe 0) ++ ((fe 0 ++ fe 0) ++ (fe 0 ++ fe 0)))).map U64, 49), (3, b3, [.slice none 0 0], 135), (4, b4, gK (cR rJn (((SK W k).1.map wDb).take y.1) F0), 49)]) (fun y => 0 - y.1) ⟨0, Nat.zero_le _⟩ (hR (pl w) rfl hGF).2.1 ⟨rfl, rfl, rfl, rfl, rfl, rfl, trivial⟩ ⟨rfl, rfl, by rw [hF0]; rfl, trivial⟩ ?_
   rintro ⟨j, hj⟩
   dsimp only
   obtain rfl : j = 0 := by omega
   refine ab (E := EE [111, 113, 115]) ?_
   refine aM false rfl rfl (fun _ => rfl) (fun _ => aA _ _ _) (rfl) rfl rfl ?_
   refine aa ?_
   refine aj ?_
   refine bg rfl ?_
   refine bf ?_
   rw [show ((SK W k).1.map wDb).take 0 = ((SK W k).1.map wDb) from by rw [hW0 k (by omega)]; rfl, hF0]
   clear hF0
   repeat (first | refine a6 ?_ | refine bX ?_)
   exact ⟨_, rfl, ⟨rfl, rfl, by first | (rw [mS W hk hd]; rfl) | (rw [mL W hk hd]; rfl), trivial⟩⟩
 ·intro D hD
  rw [gE]
  refine ab (E := EE [111, 113, 115]) ?_
  refine rTH ?_
  refine ao 2 hD rfl rfl rfl Tryz.sizeOf49 (by simp) (by simp) (ak _) rfl ?_
  refine aa ?_
  refine cG ?_
  repeat (first | refine aQ ?_ | refine aP ?_ | refine bO ?_)
  exact cr (.inl rfl) ai (aw 2 rfl rfl rfl Tryz.isAgg49 Tryz.sizeOf49 (by simp) (fun w hw => ⟨rfl, ac hw⟩))
end Q6
end Go.Proofs.YtpnpiblphnpfiaaGreatDoor
