/-
 The program's Loop.
-/
import Derived.Test.YthkmeodnlidpfaaGreatDoorTG
import Derived.Test.YthkmeodnlidpfaaGreatDoorX5
namespace Go.Proofs.YthkmeodnlidpfaaGreatDoor
open Go.RowKit
set_option maxRecDepth 100000
set_option maxHeartbeats 1000000
attribute [local simp] fe_len nm_len AS_len SS_len MONT_len RM_len FRs_len BYs_len by48_len PLl TWOl ONEl N1l IVPl HFPl RTPl FL_len SP_len fe2_len SP2_len FM_len J1.GL_len J2.GL_len Q6.FF_len
theorem rTH {Q P : Prop} (k : Q) (h : Q → P := by intro k; (refine LY.run ?_); (repeat (first | refine y_move rfl rfl rfl ?_ | refine y_assign rfl rfl rfl ?_ | ((refine ra39 rfl rfl ?_ rfl rfl ?_); (· simp)) | ((refine sa39 hGF rfl rfl rfl ?_ ?_ (one_u64 _) rfl ?_); (· simp); (· simp)) | refine y_call (f := 70) rfl rfl ent70 (k12conj _) rfl rfl ?_ | refine y_call (f := 24) rfl rfl ent24 (mdig_p) rfl rfl ?_ | refine y_call (f := 66) rfl rfl ent66 (k12square _) rfl rfl ?_ | refine y_call (f := 28) rfl rfl ent28 (k12one) rfl rfl ?_)); (first | refine y_nil ?_ | refine LY.mk ?_); exact k) : P := h k

namespace Q6
abbrev C12v (x : W12) : List Value := (((fe ((x).1.1).1 ++ fe ((x).1.1).2) ++ ((fe ((x).1.2.1).1 ++ fe ((x).1.2.1).2) ++ (fe ((x).1.2.2).1 ++ fe ((x).1.2.2).2))) ++ ((fe ((x).2.1).1 ++ fe ((x).2.1).2) ++ ((fe ((x).2.2.1).1 ++ fe ((x).2.2.1).2) ++ (fe ((x).2.2.2).1 ++ fe ((x).2.2.2).2)))).map U64
theorem C12v_len (x : W12) : (C12v x).length = 72 := by simp
def mkC (fs : List Nat) (o : Oper) : Bool := match o.op with
 | .call { callee := .value (.func f), .. } => fs.any (Nat.beq f)
 | _ => false
def SK (W : List WK) (k : Nat) : List WK × W12 := rdK (D63.take k) (W, K12.one)
theorem SK_s (W : List WK) {k : Nat} (h : k < 63) : SK W (k + 1) = rdF (DGb k) (SK W k) := by rw [SK, D63_take h, rdK_app]; rfl
theorem SK_f (W : List WK) {k : Nat} (h : k < 63) (hd : DGb k = false) : SK W (k + 1) = ((SK W k).1.map wDb, fAll rDb (SK W k).1 (K12.mul (SK W k).2 (SK W k).2)) := by rw [SK_s W h, hd]; rfl
theorem SK_t (W : List WK) {k : Nat} (h : k < 63) (hd : DGb k = true) : SK W (k + 1) = (((SK W k).1.map wDb).map wJn, fAll rJn ((SK W k).1.map wDb) (fAll rDb (SK W k).1 (K12.mul (SK W k).2 (SK W k).2))) := by rw [SK_s W h, hd]; rfl
theorem SK_len (W : List WK) : ∀ k, k ≤ 63 → (SK W k).1.length = W.length
 | 0, _ => rfl
 | k + 1, h => by
  have ih := SK_len W k (by omega)
  cases d : DGb k with
  | false => rw [SK_f W (by omega) d, List.length_map]; exact ih
  | true => rw [SK_t W (by omega) d, List.length_map, List.length_map]; exact ih
theorem fAll_snoc (g : WK → W6) : ∀ (l : List WK) (w : WK) (f : W12), fAll g (l ++ [w]) f = K12.mul (lel (g w)) (fAll g l f)
 | [], _, _ => rfl
 | v :: l, w, f => fAll_snoc g l w (K12.mul (lel (g v)) f)
theorem take_s {l : List WK} {j : Nat} {w : WK} (h : l[j]? = some w) : l.take (j + 1) = l.take j ++ [w] := by rw [List.take_add_one, h]; rfl
theorem drop_s {l : List WK} {j : Nat} {w : WK} (h : l[j]? = some w) : l.drop j = w :: l.drop (j + 1) := by
 have hj := (List.getElem?_eq_some_iff.1 h).1
 rw [List.drop_eq_getElem_cons hj]
 exact congrArg (· :: _) (List.getElem?_eq_some_iff.1 h).2
def upW (g : WK → WK) (l : List WK) (j : Nat) : List WK := (l.take j).map g ++ l.drop j
theorem upW_a {g : WK → WK} {l : List WK} {j : Nat} {w : WK} (h : l[j]? = some w) (post : List Value) : wcl (upW g l j) ++ post = wcl ((l.take j).map g) ++ (clv (wrow w) ++ (wcl (l.drop (j + 1)) ++ post)) := by
 rw [upW, drop_s h, wcl_app, wcl_cons]
 simp only [List.append_assoc]
theorem upW_b {g : WK → WK} {l : List WK} {j : Nat} {w : WK} (h : l[j]? = some w) (post : List Value) : wcl (upW g l (j + 1)) ++ post = wcl ((l.take j).map g) ++ (clv (wrow (g w)) ++ (wcl (l.drop (j + 1)) ++ post)) := by
 rw [upW, take_s h, List.map_append, wcl_app, wcl_app, show [w].map g = [g w] from rfl, wcl_one]
 simp only [List.append_assoc]
theorem upW_l {g : WK → WK} {l : List WK} {j : Nat} {w : WK} (h : l[j]? = some w) : (wcl ((l.take j).map g)).length = 0 + 72 * j := by
 have hj := (List.getElem?_eq_some_iff.1 h).1
 rw [wcl_len, List.length_map, List.length_take, Nat.min_eq_left (by omega), Nat.zero_add]
theorem upW_0 (g : WK → WK) (l : List WK) : upW g l 0 = l := rfl
theorem upW_n (g : WK → WK) {l : List WK} {j : Nat} (h : l.length = j) : upW g l j = l.map g := by
 rw [upW, List.take_of_length_le (by omega), List.drop_eq_nil_of_le (by omega), List.append_nil]
theorem at_M {f : FuncId} {g : WK → WK} {u : WK → W6} {l : List WK} {j : Nat} {w : WK} (h : l[j]? = some w) {b : Nat} {post : List Value} {W : World} (ho : OwnB W b (wcl (upW g l j) ++ post) 114)
  (hc : ∀ {pre post : List Value}, OwnB W b (pre ++ (clv (wrow w) ++ post)) 114 → Calls Tryz.prog f [.pointer (some ⟨b, pre.length, none⟩)].toArray W (fun e W' => e = .returned (EV6 (u w)) ∧ Mod b W W' ∧ OwnB W' b (pre ++ (clv (wrow (g w)) ++ post)) 114)) :
  Calls Tryz.prog f [.pointer (some ⟨b, 0 + 72 * j, none⟩)].toArray W (fun e W' => e = .returned (EV6 (u w)) ∧ Mod b W W' ∧ OwnB W' b (wcl (upW g l (j + 1)) ++ post) 114) := by
 rw [upW_a h] at ho
 have k := hc ho
 rw [upW_l h] at k
 rw [upW_b h]
 exact k
theorem dbl_at {l : List WK} {j : Nat} {w : WK} (h : l[j]? = some w) {b : Nat} {post : List Value} {W : World} (hw : Gt W) (hb : 3 ≤ b) (ho : OwnB W b (wcl (upW wDb l j) ++ post) 114) : Calls Tryz.prog 67 [.pointer (some ⟨b, 0 + 72 * j, none⟩)].toArray W (fun e W' => e = .returned (EV6 (rDb w)) ∧ Mod b W W' ∧ OwnB W' b (wcl (upW wDb l (j + 1)) ++ post) 114) := at_M h ho (fun {_ _} k => mdbl w hw hb k)
theorem jn_at {l : List WK} {j : Nat} {w : WK} (h : l[j]? = some w) {b : Nat} {post : List Value} {W : World} (hz : ¬ w.2.2.2.2 = ze2) (hw : Gt W) (hb : 3 ≤ b) (ho : OwnB W b (wcl (upW wJn l j) ++ post) 114) : Calls Tryz.prog 69 [.pointer (some ⟨b, 0 + 72 * j, none⟩)].toArray W (fun e W' => e = .returned (EV6 (rJn w)) ∧ Mod b W W' ∧ OwnB W' b (wcl (upW wJn l (j + 1)) ++ post) 114) := at_M h ho (fun {_ _} k => mjn w hz hw hb k)
theorem loop_y (W : List WK) (n b cap : Nat) (cs : List Value) (hWl : W.length ≤ 1000) (hZ : ∀ k, k < 63 → DGb k = true → ∀ w ∈ (SK W k).1.map wDb, ¬ w.2.2.2.2 = ze2) (hB : ∀ w', Gt w' → w'.rangeAt b 0 cs → Calls Tryz.prog 65 [.slice (some ⟨b, 0, none⟩) n cap].toArray w' (fun r w'' => ∃ bW post capW, r = .returned (.slice (some ⟨bW, 0, none⟩) W.length capW) ∧ Grow w' w'' ∧ w'.heap.size ≤ bW ∧ OwnB w'' bW (wcl W ++ post) 114)) (w : World) (hw : Gt w) (h : w.rangeAt b 0 cs) :
  Calls Tryz.prog 19 [.slice (some ⟨b, 0, none⟩) n cap].toArray w (fun r w' => r = .returned (EV12 (cj12 (SK W 63).2)) ∧ Grow w w') := by
 have hGF : BOk Gt (pl w) := gt_low.plain hw
 refine calls_of_XM (G := Gt) Tryz.func19 rfl rfl (Hp (pl w) []) (hp_refl (pl w) trivial rides_true) (good_hp hGF) ?_
 refine xs_plain (E := EE [65, 67, 69]) ?_
 refine la zv39 fun b2 => ?_
 refine lx_nil ?_
 refine x_scope ?_
 refine xs_plain (E := EE [65, 67, 69]) ?_
 refine rTH ?_
 refine lx_callE rfl rfl ent65 rfl rfl (fun w' hw' => (hB w' (hGF.g _ _ _ hw') (hp_oldrange h (fun h => h) w' hw')).mono fun e' w'' h' => ?_)
 obtain ⟨bW, post, capW, rfl, hg, hbD, hoD⟩ := h'
 have hb3 : 3 ≤ bW := Nat.le_trans (gt_size (hGF.g _ _ _ hw')) hbD
 refine ⟨_, _, rfl, good_hp hGF, hw'.news rides_true hg [(50, bW, wcl W ++ post, 114)] ?_ inj_one, ?_⟩
 ·intro n' b' c' t' hl
  rcases lkB_cons hl with ⟨_, e⟩ | ⟨_, hl⟩
  ·cases e; exact ⟨hbD, hoD⟩
  ·cases hl
 clear hw' hg hbD hoD
 refine lx_alloc 3 hGF Tryz.zeroValue111 rfl rfl ?_
 intro b3
 refine lx_store 3 hGF rfl rfl rfl Tryz.sizeOf111 rfl (by first | decide | simp) rfl ?_
 refine lx_nil ?_
 refine xs_plain (E := EE [65, 67, 69]) ?_
 refine rTH ?_
 refine la zv39 fun b4 => ?_
 refine rTH ?_
 refine x_seq ?_
 refine x_label ?_
 refine x_seq ?_
 refine xs_plain (E := EE [65, 67, 69]) ?_
 refine rTH ?_
 refine x_block ?_
 refine x_range (fun _ => pl w) (fun _ _ => pl w) (fun _ => hGF) (fun _ _ => hGF) (fun _ => rfl) (fun _ _ => rfl) rfl rfl ent79 mdig_seq (fun x hx => by obtain ⟨k, hk, rfl⟩ := List.mem_map.1 hx; rfl) rfl (fun k => [(2, b2, (((fe 0 ++ fe 0) ++ ((fe 0 ++ fe 0) ++ (fe 0 ++ fe 0))) ++ ((fe 0 ++ fe 0) ++ ((fe 0 ++ fe 0) ++ (fe 0 ++ fe 0)))).map U64, 39), (3, b3, [.slice (some ⟨bW, 0, none⟩) W.length capW], 111), (4, b4, C12v ((SK W k).2), 39), (50, bW, wcl ((SK W k).1) ++ post, 114)]) (fun _ _ _ => False) ⟨rfl, rfl, rfl, rfl, trivial⟩ (fun _ _ _ _ => trivial) ?_ ?_ (fun _ _ _ _ _ h => h.elim)
 ·intro k v hx R hR
  obtain ⟨hk, rfl⟩ := DGs_at hx
  refine x_plain (E := EE [65, 67, 69]) ?_
  refine rTH ?_
  refine ⟨rfl, _, rfl, ?_⟩
  refine x_block ?_
  refine xs_plain (E := EE [65, 67, 69]) ?_
  refine rTH ?_
  refine lx_storea 4 (hR (pl w) rfl hGF).2.1 rfl rfl rfl Tryz.sizeOf39 (by simp) (by simp) (one_u64 _) rfl ?_
  refine lx_nil ?_
  refine x_seq ?_
  refine xs_plain (E := EE [65, 67, 69]) ?_
  refine lx_loadl 3 rfl rfl rfl Tryz.isAgg111 rfl rfl ?_
  refine lx_len rfl (fun _ => len_slice Tryz.underlying111 _ _ _ _) rfl rfl ?_
  refine rTH ?_
  refine x_block ?_
  obtain ⟨F0, hF0⟩ : ∃ F0, F0 = K12.mul (SK W k).2 (SK W k).2 := ⟨_, rfl⟩
  refine x_for (ι := { j : Nat // j ≤ W.length }) (fun y => [(2, .pointer (some ⟨b2, 0, none⟩)), (3, .pointer (some ⟨b3, 0, none⟩)), (4, .pointer (some ⟨b4, 0, none⟩)), (5, .bool (DGb k)), (16, I ((W.length : Nat) : Int)), (17, I (y.1 : Int))]) (fun y => [(2, b2, (((fe 0 ++ fe 0) ++ ((fe 0 ++ fe 0) ++ (fe 0 ++ fe 0))) ++ ((fe 0 ++ fe 0) ++ ((fe 0 ++ fe 0) ++ (fe 0 ++ fe 0)))).map U64, 39), (3, b3, [.slice (some ⟨bW, 0, none⟩) W.length capW], 111), (4, b4, C12v (fAll rDb ((SK W k).1.take y.1) F0), 39), (50, bW, wcl (upW wDb (SK W k).1 y.1) ++ post, 114)]) (fun y => W.length - y.1) ⟨0, Nat.zero_le _⟩ (hR (pl w) rfl hGF).2.1 ⟨rfl, rfl, rfl, rfl, rfl, rfl, trivial⟩ ⟨rfl, rfl, by rw [hF0]; rfl, rfl, trivial⟩ ?_
  rintro ⟨j, hj⟩
  dsimp only
  refine xs_plain (E := EE [65, 67, 69]) ?_
  refine lx_bin rfl rfl (fun _ => rfl) (fun _ => bin_lss_i _ _ _) rfl rfl ?_
  refine lx_nil ?_
  refine x_seq ?_
  refine x_if rfl (fun hc => ?_) (fun hc => ?_)
  ·have hj2 : j < W.length := by simp at hc; omega
   obtain ⟨wj, hwj⟩ : ∃ wj, (SK W k).1[j]? = some wj := ⟨_, List.getElem?_eq_getElem (by rw [SK_len W k (by omega)]; exact hj2)⟩
   refine x_skip ?_
   refine x_seq ?_
   refine x_block ?_
   refine xs_plain (E := EE [65, 67, 69]) ?_
   refine rTH ?_
   refine x_drawK (E := EE [65, 67, 69]) (fun X => X = Hp (R.b (pl w)) [(4, b4, C12v (fAll rDb ((SK W k).1.take j) F0), 39)]) (mkC [67]) (rkB [24]) [0, 1, 2, 4, 3, 5, 6] mixed rfl (by kernel_rfl) (by kernel_rfl) (by kernel_rfl) ?_
   refine lxk_s rfl rfl ?_
   refine lx_loadl 3 rfl rfl rfl Tryz.isAgg111 rfl rfl ?_
   refine lx_nil ?_
   refine lxk_s rfl rfl ?_
   refine rTH ?_
   refine lxk_s rfl rfl ?_
   refine lx_isW (s := 72) j rfl rfl Tryz.underlying111 Tryz.sizeOf114 (by omega) (by omega) rfl rfl ?_
   refine lx_nil ?_
   refine lxk_q (X := Hp (R.b (pl w)) [(4, b4, C12v (fAll rDb ((SK W k).1.take j) F0), 39)]) rfl (hp_sub (hR (pl w) rfl hGF).2.1.r ⟨rfl, trivial⟩) (fun _ => rfl) ?_
   refine lx_loada 4 rfl rfl Tryz.isAgg39 Tryz.sizeOf39 (C12v_len _) rfl rfl ?_
   refine lx_nil ?_
   refine lxk_e rfl ?_
   refine lx_callE rfl rfl ent67 rfl rfl (fun w' hw' => (dbl_at hwj ((hR (pl w) rfl hGF).2.1.g _ _ _ hw') hb3 (hw'.own 50 _ _ _ rfl).1).mono fun e' w'' h' => ?_)
   obtain ⟨rfl, hm, ho⟩ := h'
   refine ⟨_, _, rfl, good_hp (hR (pl w) rfl hGF).2.1, hw'.mod (hR (pl w) rfl hGF).2.1.r (n := 50) rfl hm ho, ?_⟩
   clear hw' hm ho
   refine lx_nil ?_
   refine ⟨fun _ X hX _ => by subst hX; exact hp_sub (hR (pl w) rfl hGF).2.1.r ⟨rfl, trivial⟩, ?_⟩
   refine lxk_s rfl rfl ?_
   refine lx_call rfl rfl ent68 (mtimes (rDb wj) (fAll rDb ((SK W k).1.take j) F0)) rfl rfl ?_
   refine lx_nil ?_
   refine lxk_e rfl ?_
   refine lx_storea 4 (hR (pl w) rfl hGF).2.1 rfl rfl rfl Tryz.sizeOf39 (by simp) (C12v_len _) (one_u64 _) rfl ?_
   refine lx_nil ?_
   refine ⟨fun h => Bool.noConfusion h, ?_⟩
   refine lxk_nil ?_
   refine x_plain (E := EE [65, 67, 69]) ?_
   refine lx_bin rfl rfl (fun _ => rfl) (fun _ => bin_add_i _ _ _ (by unfold inI; omega)) rfl rfl ?_
   refine rTH ?_
   repeat (refine kblk_n ?_)
   refine kseq_n ?_
   have eF : K12.mul (lel (rDb wj)) (fAll rDb ((SK W k).1.take j) F0) = fAll rDb ((SK W k).1.take (j + 1)) F0 := by rw [take_s hwj, fAll_snoc]
   exact ⟨rfl, ⟨j + 1, by omega⟩, _, by show W.length - (j + 1) < W.length - j; omega, rfl, ⟨rfl, rfl, rfl, rfl, rfl, rfl, trivial⟩, ⟨rfl, rfl, by rw [← eF]; rfl, rfl, trivial⟩⟩
  ·obtain rfl : j = W.length := by simp at hc; omega
   refine x_exit ?_
   rw [upW_n wDb (by rw [SK_len W k (by omega)]), List.take_of_length_le (Nat.le_of_eq (by rw [SK_len W k (by omega)])), hF0]
   clear hF0
   refine x_seq ?_
   refine xs_plain (E := EE [65, 67, 69]) ?_
   refine rTH ?_
   refine lx_un rfl (fun _ => un_not _) rfl rfl ?_
   refine lx_nil ?_
   refine x_if rfl (fun hc => ?_) (fun hc => ?_)
   ·have hd : DGb k = false := by simpa using hc
    refine x_exit ?_
    repeat (first | refine kblk_n ?_ | refine kblk_x ?_)
    exact ⟨_, rfl, ⟨rfl, rfl, by first | (rw [SK_f W hk hd]; rfl) | (rw [SK_t W hk hd]; rfl), by first | (rw [SK_f W hk hd]; rfl) | (rw [SK_t W hk hd]; rfl), trivial⟩⟩
   ·have hd : DGb k = true := by simpa using hc
    refine x_skip ?_
    refine xs_plain (E := EE [65, 67, 69]) ?_
    refine lx_loadl 3 rfl rfl rfl Tryz.isAgg111 rfl rfl ?_
    refine lx_len rfl (fun _ => len_slice Tryz.underlying111 _ _ _ _) rfl rfl ?_
    refine rTH ?_
    refine x_block ?_
    obtain ⟨F0, hF0⟩ : ∃ F0, F0 = fAll rDb (SK W k).1 (K12.mul (SK W k).2 (SK W k).2) := ⟨_, rfl⟩
    refine x_for (ι := { j : Nat // j ≤ W.length }) (fun y => [(2, .pointer (some ⟨b2, 0, none⟩)), (3, .pointer (some ⟨b3, 0, none⟩)), (4, .pointer (some ⟨b4, 0, none⟩)), (5, .bool (DGb k)), (30, I ((W.length : Nat) : Int)), (31, I (y.1 : Int))]) (fun y => [(2, b2, (((fe 0 ++ fe 0) ++ ((fe 0 ++ fe 0) ++ (fe 0 ++ fe 0))) ++ ((fe 0 ++ fe 0) ++ ((fe 0 ++ fe 0) ++ (fe 0 ++ fe 0)))).map U64, 39), (3, b3, [.slice (some ⟨bW, 0, none⟩) W.length capW], 111), (4, b4, C12v (fAll rJn (((SK W k).1.map wDb).take y.1) F0), 39), (50, bW, wcl (upW wJn ((SK W k).1.map wDb) y.1) ++ post, 114)]) (fun y => W.length - y.1) ⟨0, Nat.zero_le _⟩ (hR (pl w) rfl hGF).2.1 ⟨rfl, rfl, rfl, rfl, rfl, rfl, trivial⟩ ⟨rfl, rfl, by rw [hF0]; rfl, by rw [upW_0]; rfl, trivial⟩ ?_
    rintro ⟨j, hj⟩
    dsimp only
    refine xs_plain (E := EE [65, 67, 69]) ?_
    refine lx_bin rfl rfl (fun _ => rfl) (fun _ => bin_lss_i _ _ _) rfl rfl ?_
    refine lx_nil ?_
    refine x_seq ?_
    refine x_if rfl (fun hc => ?_) (fun hc => ?_)
    ·have hj2 : j < W.length := by simp at hc; omega
     obtain ⟨wj, hwj⟩ : ∃ wj, ((SK W k).1.map wDb)[j]? = some wj := ⟨_, List.getElem?_eq_getElem (by rw [List.length_map, SK_len W k (by omega)]; exact hj2)⟩
     refine x_skip ?_
     refine x_seq ?_
     refine x_block ?_
     refine xs_plain (E := EE [65, 67, 69]) ?_
     refine rTH ?_
     refine x_drawK (E := EE [65, 67, 69]) (fun X => X = Hp (R.b (pl w)) [(4, b4, C12v (fAll rJn (((SK W k).1.map wDb).take j) F0), 39)]) (mkC [69]) (rkB [38]) [0, 1, 2, 4, 3, 5, 6] mixed rfl (by kernel_rfl) (by kernel_rfl) (by kernel_rfl) ?_
     refine lxk_s rfl rfl ?_
     refine lx_loadl 3 rfl rfl rfl Tryz.isAgg111 rfl rfl ?_
     refine lx_nil ?_
     refine lxk_s rfl rfl ?_
     refine rTH ?_
     refine lxk_s rfl rfl ?_
     refine lx_isW (s := 72) j rfl rfl Tryz.underlying111 Tryz.sizeOf114 (by omega) (by omega) rfl rfl ?_
     refine lx_nil ?_
     refine lxk_q (X := Hp (R.b (pl w)) [(4, b4, C12v (fAll rJn (((SK W k).1.map wDb).take j) F0), 39)]) rfl (hp_sub (hR (pl w) rfl hGF).2.1.r ⟨rfl, trivial⟩) (fun _ => rfl) ?_
     refine lx_loada 4 rfl rfl Tryz.isAgg39 Tryz.sizeOf39 (C12v_len _) rfl rfl ?_
     refine lx_nil ?_
     refine lxk_e rfl ?_
     refine lx_callE rfl rfl ent69 rfl rfl (fun w' hw' => (jn_at hwj (hZ k hk hd _ (List.mem_of_getElem? hwj)) ((hR (pl w) rfl hGF).2.1.g _ _ _ hw') hb3 (hw'.own 50 _ _ _ rfl).1).mono fun e' w'' h' => ?_)
     obtain ⟨rfl, hm, ho⟩ := h'
     refine ⟨_, _, rfl, good_hp (hR (pl w) rfl hGF).2.1, hw'.mod (hR (pl w) rfl hGF).2.1.r (n := 50) rfl hm ho, ?_⟩
     clear hw' hm ho
     refine lx_nil ?_
     refine ⟨fun _ X hX _ => by subst hX; exact hp_sub (hR (pl w) rfl hGF).2.1.r ⟨rfl, trivial⟩, ?_⟩
     refine lxk_s rfl rfl ?_
     refine lx_call rfl rfl ent68 (mtimes (rJn wj) (fAll rJn (((SK W k).1.map wDb).take j) F0)) rfl rfl ?_
     refine lx_nil ?_
     refine lxk_e rfl ?_
     refine lx_storea 4 (hR (pl w) rfl hGF).2.1 rfl rfl rfl Tryz.sizeOf39 (by simp) (C12v_len _) (one_u64 _) rfl ?_
     refine lx_nil ?_
     refine ⟨fun h => Bool.noConfusion h, ?_⟩
     refine lxk_nil ?_
     refine x_plain (E := EE [65, 67, 69]) ?_
     refine lx_bin rfl rfl (fun _ => rfl) (fun _ => bin_add_i _ _ _ (by unfold inI; omega)) rfl rfl ?_
     refine rTH ?_
     repeat (refine kblk_n ?_)
     refine kseq_n ?_
     have eF : K12.mul (lel (rJn wj)) (fAll rJn (((SK W k).1.map wDb).take j) F0) = fAll rJn (((SK W k).1.map wDb).take (j + 1)) F0 := by rw [take_s hwj, fAll_snoc]
     exact ⟨rfl, ⟨j + 1, by omega⟩, _, by show W.length - (j + 1) < W.length - j; omega, rfl, ⟨rfl, rfl, rfl, rfl, rfl, rfl, trivial⟩, ⟨rfl, rfl, by rw [← eF]; rfl, rfl, trivial⟩⟩
    ·obtain rfl : j = W.length := by simp at hc; omega
     refine x_exit ?_
     rw [upW_n wJn (by rw [List.length_map, SK_len W k (by omega)]), List.take_of_length_le (Nat.le_of_eq (by rw [List.length_map, SK_len W k (by omega)])), hF0]
     clear hF0
     repeat (first | refine kblk_n ?_ | refine kblk_x ?_)
     exact ⟨_, rfl, ⟨rfl, rfl, by first | (rw [SK_f W hk hd]; rfl) | (rw [SK_t W hk hd]; rfl), by first | (rw [SK_f W hk hd]; rfl) | (rw [SK_t W hk hd]; rfl), trivial⟩⟩
 ·intro D hD
  rw [DGs_len]
  refine xs_plain (E := EE [65, 67, 69]) ?_
  refine rTH ?_
  refine lx_storea 2 hD rfl rfl rfl Tryz.sizeOf39 (by simp) (by simp) (one_u64 _) rfl ?_
  refine lx_nil ?_
  refine x_ret ?_
  repeat (first | refine kseq_ret ?_ | refine kblk_ret ?_ | refine kng_ret ?_)
  exact kretM_1 (.inl rfl) rides_true (kret_own 2 rfl rfl rfl Tryz.isAgg39 Tryz.sizeOf39 (by simp) (fun w hw => ⟨rfl, hp_below hw⟩))
theorem loop_n (W : List WK) (n b cap : Nat) (cs : List Value) (hW0 : ∀ k, k ≤ 63 → (SK W k).1 = []) (hB : ∀ w', Gt w' → w'.rangeAt b 0 cs → Calls Tryz.prog 65 [.slice (some ⟨b, 0, none⟩) n cap].toArray w' (fun r w'' => r = .returned (.slice none 0 0) ∧ Grow w' w'')) (w : World) (hw : Gt w) (h : w.rangeAt b 0 cs) :
  Calls Tryz.prog 19 [.slice (some ⟨b, 0, none⟩) n cap].toArray w (fun r w' => r = .returned (EV12 (cj12 (SK W 63).2)) ∧ Grow w w') := by
 have hGF : BOk Gt (pl w) := gt_low.plain hw
 refine calls_of_XM (G := Gt) Tryz.func19 rfl rfl (Hp (pl w) []) (hp_refl (pl w) trivial rides_true) (good_hp hGF) ?_
 refine xs_plain (E := EE [65, 67, 69]) ?_
 refine la zv39 fun b2 => ?_
 refine lx_nil ?_
 refine x_scope ?_
 refine xs_plain (E := EE [65, 67, 69]) ?_
 refine rTH ?_
 refine lx_callE rfl rfl ent65 rfl rfl (fun w' hw' => (hB w' (hGF.g _ _ _ hw') (hp_oldrange h (fun h => h) w' hw')).mono fun e' w'' h' => ?_)
 obtain ⟨rfl, hg⟩ := h'
 refine ⟨_, _, rfl, good_hp hGF, hw'.grow rides_true hg, ?_⟩
 clear hw' hg
 refine lx_alloc 3 hGF Tryz.zeroValue111 rfl rfl ?_
 intro b3
 refine lx_store 3 hGF rfl rfl rfl Tryz.sizeOf111 rfl (by first | decide | simp) rfl ?_
 refine lx_nil ?_
 refine xs_plain (E := EE [65, 67, 69]) ?_
 refine rTH ?_
 refine la zv39 fun b4 => ?_
 refine rTH ?_
 refine x_seq ?_
 refine x_label ?_
 refine x_seq ?_
 refine xs_plain (E := EE [65, 67, 69]) ?_
 refine rTH ?_
 refine x_block ?_
 refine x_range (fun _ => pl w) (fun _ _ => pl w) (fun _ => hGF) (fun _ _ => hGF) (fun _ => rfl) (fun _ _ => rfl) rfl rfl ent79 mdig_seq (fun x hx => by obtain ⟨k, hk, rfl⟩ := List.mem_map.1 hx; rfl) rfl (fun k => [(2, b2, (((fe 0 ++ fe 0) ++ ((fe 0 ++ fe 0) ++ (fe 0 ++ fe 0))) ++ ((fe 0 ++ fe 0) ++ ((fe 0 ++ fe 0) ++ (fe 0 ++ fe 0)))).map U64, 39), (3, b3, [.slice none 0 0], 111), (4, b4, C12v ((SK W k).2), 39)]) (fun _ _ _ => False) ⟨rfl, rfl, rfl, trivial⟩ (fun _ _ _ _ => trivial) ?_ ?_ (fun _ _ _ _ _ h => h.elim)
 ·intro k v hx R hR
  obtain ⟨hk, rfl⟩ := DGs_at hx
  refine x_plain (E := EE [65, 67, 69]) ?_
  refine rTH ?_
  refine ⟨rfl, _, rfl, ?_⟩
  refine x_block ?_
  refine xs_plain (E := EE [65, 67, 69]) ?_
  refine rTH ?_
  refine lx_storea 4 (hR (pl w) rfl hGF).2.1 rfl rfl rfl Tryz.sizeOf39 (by simp) (by simp) (one_u64 _) rfl ?_
  refine lx_nil ?_
  refine x_seq ?_
  refine xs_plain (E := EE [65, 67, 69]) ?_
  refine lx_loadl 3 rfl rfl rfl Tryz.isAgg111 rfl rfl ?_
  refine lx_len rfl (fun _ => len_slice Tryz.underlying111 _ _ _ _) rfl rfl ?_
  refine rTH ?_
  refine x_block ?_
  obtain ⟨F0, hF0⟩ : ∃ F0, F0 = K12.mul (SK W k).2 (SK W k).2 := ⟨_, rfl⟩
  refine x_for (ι := { j : Nat // j ≤ 0 }) (fun y => [(2, .pointer (some ⟨b2, 0, none⟩)), (3, .pointer (some ⟨b3, 0, none⟩)), (4, .pointer (some ⟨b4, 0, none⟩)), (5, .bool (DGb k)), (16, I ((0 : Nat) : Int)), (17, I (y.1 : Int))]) (fun y => [(2, b2, (((fe 0 ++ fe 0) ++ ((fe 0 ++ fe 0) ++ (fe 0 ++ fe 0))) ++ ((fe 0 ++ fe 0) ++ ((fe 0 ++ fe 0) ++ (fe 0 ++ fe 0)))).map U64, 39), (3, b3, [.slice none 0 0], 111), (4, b4, C12v (fAll rDb ((SK W k).1.take y.1) F0), 39)]) (fun y => 0 - y.1) ⟨0, Nat.zero_le _⟩ (hR (pl w) rfl hGF).2.1 ⟨rfl, rfl, rfl, rfl, rfl, rfl, trivial⟩ ⟨rfl, rfl, by rw [hF0]; rfl, trivial⟩ ?_
  rintro ⟨j, hj⟩
  dsimp only
  obtain rfl : j = 0 := by omega
  refine xs_plain (E := EE [65, 67, 69]) ?_
  refine lx_binB false rfl rfl (fun _ => rfl) (fun _ => bin_lss_i _ _ _) (rfl) rfl rfl ?_
  refine lx_nil ?_
  refine x_seq ?_
  refine x_false rfl ?_
  refine x_exit ?_
  rw [show (SK W k).1.take 0 = (SK W k).1 from by rw [hW0 k (by omega)]; rfl, hF0]
  clear hF0
  refine x_seq ?_
  refine xs_plain (E := EE [65, 67, 69]) ?_
  refine rTH ?_
  refine lx_un rfl (fun _ => un_not _) rfl rfl ?_
  refine lx_nil ?_
  refine x_if rfl (fun hc => ?_) (fun hc => ?_)
  ·have hd : DGb k = false := by simpa using hc
   refine x_exit ?_
   repeat (first | refine kblk_n ?_ | refine kblk_x ?_)
   exact ⟨_, rfl, ⟨rfl, rfl, by first | (rw [SK_f W hk hd]; rfl) | (rw [SK_t W hk hd]; rfl), trivial⟩⟩
  ·have hd : DGb k = true := by simpa using hc
   refine x_skip ?_
   refine xs_plain (E := EE [65, 67, 69]) ?_
   refine lx_loadl 3 rfl rfl rfl Tryz.isAgg111 rfl rfl ?_
   refine lx_len rfl (fun _ => len_slice Tryz.underlying111 _ _ _ _) rfl rfl ?_
   refine rTH ?_
   refine x_block ?_
   obtain ⟨F0, hF0⟩ : ∃ F0, F0 = fAll rDb (SK W k).1 (K12.mul (SK W k).2 (SK W k).2) := ⟨_, rfl⟩
   refine x_for (ι := { j : Nat // j ≤ 0 }) (fun y => [(2, .pointer (some ⟨b2, 0, none⟩)), (3, .pointer (some ⟨b3, 0, none⟩)), (4, .pointer (some ⟨b4, 0, none⟩)), (5, .bool (DGb k)), (30, I ((0 : Nat) : Int)), (31, I (y.1 : Int))]) (fun y => [(2, b2, (((fe 0 ++ fe 0) ++ ((fe 0 ++ fe 0) ++ (fe 0 ++ fe 0))) ++ ((fe 0 ++ fe 0) ++ ((fe 0 ++ fe 0) ++ (fe 0 ++ fe 0)))).map U64, 39), (3, b3, [.slice none 0 0], 111), (4, b4, C12v (fAll rJn (((SK W k).1.map wDb).take y.1) F0), 39)]) (fun y => 0 - y.1) ⟨0, Nat.zero_le _⟩ (hR (pl w) rfl hGF).2.1 ⟨rfl, rfl, rfl, rfl, rfl, rfl, trivial⟩ ⟨rfl, rfl, by rw [hF0]; rfl, trivial⟩ ?_
   rintro ⟨j, hj⟩
   dsimp only
   obtain rfl : j = 0 := by omega
   refine xs_plain (E := EE [65, 67, 69]) ?_
   refine lx_binB false rfl rfl (fun _ => rfl) (fun _ => bin_lss_i _ _ _) (rfl) rfl rfl ?_
   refine lx_nil ?_
   refine x_seq ?_
   refine x_false rfl ?_
   refine x_exit ?_
   rw [show ((SK W k).1.map wDb).take 0 = ((SK W k).1.map wDb) from by rw [hW0 k (by omega)]; rfl, hF0]
   clear hF0
   repeat (first | refine kblk_n ?_ | refine kblk_x ?_)
   exact ⟨_, rfl, ⟨rfl, rfl, by first | (rw [SK_f W hk hd]; rfl) | (rw [SK_t W hk hd]; rfl), trivial⟩⟩
 ·intro D hD
  rw [DGs_len]
  refine xs_plain (E := EE [65, 67, 69]) ?_
  refine rTH ?_
  refine lx_storea 2 hD rfl rfl rfl Tryz.sizeOf39 (by simp) (by simp) (one_u64 _) rfl ?_
  refine lx_nil ?_
  refine x_ret ?_
  repeat (first | refine kseq_ret ?_ | refine kblk_ret ?_ | refine kng_ret ?_)
  exact kretM_1 (.inl rfl) rides_true (kret_own 2 rfl rfl rfl Tryz.isAgg39 Tryz.sizeOf39 (by simp) (fun w hw => ⟨rfl, hp_below hw⟩))
end Q6
end Go.Proofs.YthkmeodnlidpfaaGreatDoor
