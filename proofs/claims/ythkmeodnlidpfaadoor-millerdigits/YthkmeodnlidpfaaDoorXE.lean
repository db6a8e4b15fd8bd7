/-
 The reference's elements of six parts.
 The reference's elements of six parts: products, inverses.
 The reference's elements of six parts: inverses; elements of fp6 as values.
 Elements of fp6 as values; what the laws of layer 6 share.
 The walks of package fp6.
-/
import Derived.Test.YthkmeodnlidpfaaDoorXA
import Derived.Test.YthkmeodnlidpfaaDoorXD
import Derived.Test.YthkmeodnlidpfaaDoorX5
import Derived.Test.YthkmeodnlidpfaaDoorX3
set_option maxRecDepth 100000
set_option maxHeartbeats 1000000
namespace Go.Proofs.YthkmeodnlidpfaaDoor
section
open Go.RowKit
namespace Q6
attribute [local simp] fe_len nm_len AS_len SS_len MONT_len RM_len FRs_len BYs_len by48_len PLl TWOl ONEl N1l IVPl HFPl RTPl FL_len SP_len fe2_len SP2_len FM_len
def FF (f : Nat → W2) (i : Nat) : List (BitVec 64) := fe2 (f i)
theorem FF_load (f : Nat → W2) (v : W2) (n k o : Nat) (hk : k < n) (ho : o = 12 * k) (hv : f k = v) : ∀ j u, ((fe v.1 ++ fe v.2).map U64)[j]? = some u → ((FM (FF f) n).map U64)[o + j]? = some u := by
 subst hv
 exact FM_load (FF f) n k hk (fe2_len _) o ho
theorem FF_len (f : Nat → W2) (n : Nat) : (FM (FF f) n).length = 12 * n := FM_len _ _
theorem zero_row (n : Nat) : FM (FF fun _ => ze2) n = FM (fun _ => List.replicate 12 0#64) n := FM_congr fun i _ => by
 show fe2 ze2 = _
 rw [show fe2 ze2 = fe 0 ++ fe 0 from rfl, fe_0]; rfl
attribute [local simp] FF_len
end Q6
end
section
open Go.RowKit
namespace Q6
attribute [local simp] fe_len nm_len AS_len SS_len MONT_len RM_len FRs_len BYs_len by48_len PLl TWOl ONEl N1l IVPl HFPl RTPl FL_len SP_len fe2_len SP2_len FM_len FF_len
end Q6
end
section
open Go.RowKit
namespace Q6
attribute [local simp] fe_len nm_len AS_len SS_len MONT_len RM_len FRs_len BYs_len by48_len PLl TWOl ONEl N1l IVPl HFPl RTPl FL_len SP_len fe2_len SP2_len FM_len FF_len
end Q6
end
section
open Go.RowKit
theorem ent49 : Enters Tryd.prog 49 := fun _ _ => by kernel_rfl
theorem ent50 : Enters Tryd.prog 50 := fun _ _ => by kernel_rfl
theorem ent34 : Enters Tryd.prog 34 := fun _ _ => by kernel_rfl
theorem ent33 : Enters Tryd.prog 33 := fun _ _ => by kernel_rfl
namespace Q6
attribute [local simp] fe_len nm_len AS_len SS_len MONT_len RM_len FRs_len BYs_len by48_len PLl TWOl ONEl N1l IVPl HFPl RTPl FL_len SP_len fe2_len SP2_len FM_len FF_len
abbrev EV6 (x : W6) : Value := .agg (((fe (x.1).1 ++ fe (x.1).2) ++ ((fe (x.2.1).1 ++ fe (x.2.1).2) ++ (fe (x.2.2).1 ++ fe (x.2.2).2))).map U64).toArray
def q6 : Sh W6 := q2.two (q2.two q2 2) 2
theorem V6 (x : W6) : EV6 x = dn rid (.inl [x.1.1, x.1.2, x.2.1.1, x.2.1.2, x.2.2.1, x.2.2.2]) := by
 show Value.agg _ = Value.agg _
 rw [clv, show cel [x.1.1, x.1.2, x.2.1.1, x.2.1.2, x.2.2.1, x.2.2.2] = fe x.1.1 ++ (fe x.1.2 ++ (fe x.2.1.1 ++ (fe x.2.1.2 ++ (fe x.2.2.1 ++ fe x.2.2.2)))) from rfl]
 rw [List.append_assoc, List.append_assoc]
theorem pcast {f : Nat} {a a' : List Value} {v v' : Value} (ha : a = a') (hv : v = v') (h : Pure Tryd.prog Gt f a' v') : Pure Tryd.prog Gt f a v := by rw [ha, hv]; exact h
theorem l1 {a b : Value} (h : a = b) : [a] = [b] := by rw [h]
theorem l2 {a b c d : Value} (h : a = b) (k : c = d) : [a, c] = [b, d] := by rw [h, k]
theorem t2 {a b c : Value} (h : a = b) : Value.tuple #[a, c] = .tuple #[b, c] := by rw [h]
end Q6
end
section
open Go.RowKit
theorem ent62 : Enters Tryd.prog 62 := fun _ _ => by kernel_rfl
namespace Q6
attribute [local simp] fe_len nm_len AS_len SS_len MONT_len RM_len FRs_len BYs_len by48_len PLl TWOl ONEl N1l IVPl HFPl RTPl FL_len SP_len fe2_len SP2_len FM_len FF_len
def p3 (x : W6) : Nat → W2
 | 0 => x.1
 | 1 => x.2.1
 | _ => x.2.2
theorem zv76 (w : World) : (zeroValue 76).run Tryd.prog w = .ok (.agg ((FM (FF fun _ => ze2) 3).map U64).toArray) w := by
 rw [zero_row]; exact (Tryd.zeroValue76 w).trans (by rfl)
abbrev TV3 (f : Nat → W2) : Value := .agg ((FM (FF f) 3).map U64).toArray
theorem ff_len (f : Nat → W2) (i : Nat) : (FF f i).length = 12 := fe2_len _
attribute [local simp] ff_len
theorem p3_ext {x y : W6} (h : ∀ j, j < 3 → p3 x j = p3 y j) : x = y := Prod.ext (h 0 (by decide)) (Prod.ext (h 1 (by decide)) (h 2 (by decide)))
theorem lt_s {Q : Nat → Prop} {k : Nat} (h : ∀ j, j < k → Q j) (hk : Q k) : ∀ j, j < k + 1 → Q j := fun j hj => by
 rcases Nat.lt_or_ge j k with h1 | h1
 ·exact h j h1
 ·obtain rfl : j = k := by omega
  exact hk
theorem k6list (x : W6) : Pure Tryd.prog Gt 49 [EV6 x] (TV3 (p3 x)) := by
 intro w hw
 have hGF : BOk Gt (pl w) := gt_low.plain hw
 refine calls_of_X (G := Gt) Tryd.func49 rfl rfl (Hp (pl w) []) (hp_refl (pl w) trivial rides_true) (good_hp hGF) ?_
 refine xs_plain (E := EE []) ?_
 refine lx_boxr 1 hGF rfl rfl rfl ?_
 intro b1
 refine lx_allocr 2 hGF zv76 rfl rfl ?_
 intro b2
 refine lx_nil ?_
 refine xs_plain (E := EE []) ?_
 refine lx_fak 0 rfl Tryd.underlying42 rfl Tryd.sizeOf37 (by decide) rfl rfl rfl ?_
 refine lx_loado 1 _ rfl rfl Tryd.isAgg37 Tryd.sizeOf37 (by simp) ld_l rfl rfl ?_
 refine lx_fak 12 rfl Tryd.underlying42 rfl Tryd.sizeOf37 (by decide) rfl rfl rfl ?_
 refine lx_loado 1 _ rfl rfl Tryd.isAgg37 Tryd.sizeOf37 (by simp) (ld_m (by simp)) rfl rfl ?_
 refine lx_fak 24 rfl Tryd.underlying42 rfl Tryd.sizeOf37 (by decide) rfl rfl rfl ?_
 refine lx_loado 1 _ rfl rfl Tryd.isAgg37 Tryd.sizeOf37 (by simp) (ld_rr (m := 12) (n := 12) (by simp) (by simp) rfl) rfl rfl ?_
 refine lx_arr3 (FF (p3 x)) rfl rfl rfl Tryd.underlying76 Tryd.sizeOf37 zv76 (fe2_len _) (fe2_len _) (fe2_len _) rfl rfl ?_
 refine lx_storea 2 hGF rfl rfl rfl Tryd.sizeOf76 (by simp) (by simp) (one_u64 _) rfl ?_
 refine lx_nil ?_
 refine x_ret ?_
 repeat (first | refine kseq_ret ?_ | refine kblk_ret ?_)
 exact kret_own 2 rfl rfl rfl Tryd.isAgg76 Tryd.sizeOf76 (by simp) (fun w hw => ⟨rfl, hp_below hw⟩)
theorem k6parts_calls (x : W6) (w : World) (hw : Gt w) : Calls Tryd.prog 50 [EV6 x].toArray w (fun e w' => ∃ b1, e = .returned (.func (.func 62) #[] #[.pointer (some ⟨b1, 0, none⟩)]) ∧ Grow w w' ∧ w.heap.size ≤ b1 ∧ OwnB w' b1 (((fe (x.1).1 ++ fe (x.1).2) ++ ((fe (x.2.1).1 ++ fe (x.2.1).2) ++ (fe (x.2.2).1 ++ fe (x.2.2).2))).map U64) 42) := by
 have hGF : BOk Gt (pl w) := gt_low.plain hw
 refine calls_of_X (G := Gt) Tryd.func50 rfl rfl (Hp (pl w) []) (hp_refl (pl w) trivial rides_true) (good_hp hGF) ?_
 refine xs_plain (E := EE []) ?_
 refine lx_boxr 1 hGF rfl rfl rfl ?_
 intro b1
 refine lx_assign rfl rfl rfl ?_
 refine lx_nil ?_
 refine xs_plain (E := EE []) ?_
 refine lx_func rfl rfl rfl rfl ?_
 refine lx_assign rfl rfl rfl ?_
 refine lx_nil ?_
 refine x_ret ?_
 repeat (first | refine kseq_ret ?_ | refine kblk_ret ?_)
 exact kret_tmp rfl rfl (fun w hw => ⟨b1, rfl, hp_below hw, (hw.own 1 b1 _ _ rfl).2.elim id False.elim, (hw.own 1 b1 _ _ rfl).1⟩)
def PS (x : W6) : List (List Value) := (List.range 3).map fun (k : Nat) => [I (k : Int), EV2 (p3 x k)]
theorem PS_len (x : W6) : (PS x).length = 3 := by rw [PS, List.length_map, List.length_range]
theorem PS_get (x : W6) (k : Nat) (h : k < 3) : (PS x)[k]? = some [I (k : Int), EV2 (p3 x k)] := by
 rw [PS, List.getElem?_map, List.getElem?_range h]; rfl
theorem PS_at (x : W6) (k : Nat) (v : List Value) (h : (PS x)[k]? = some v) : k < 3 ∧ v = [I (k : Int), EV2 (p3 x k)] := by
 have hk : k < 3 := by
  rcases Nat.lt_or_ge k 3 with hk | hk
  ·exact hk
  ·rw [List.getElem?_eq_none (by rw [PS_len]; exact hk)] at h; cases h
 exact ⟨hk, (Option.some.inj ((PS_get x k hk).symm.trans h)).symm⟩
def RdP (bb : Nat) (x : W6) : Cls := fun w => w.rangeAt bb 0 (((fe (x.1).1 ++ fe (x.1).2) ++ ((fe (x.2.1).1 ++ fe (x.2.1).2) ++ (fe (x.2.2).1 ++ fe (x.2.2).2))).map U64)
theorem k6seq (bb : Nat) (x : W6) : SeqOk Tryd.prog Gt 62 [.pointer (some ⟨bb, 0, none⟩)] (PS x) (RdP bb x) := by
 intro l J Jx hJ hJx hRd hGx hY w hj
 have okJ : ∀ k, BOk Gt (Bi w (fun Y => J Y k)) := fun k => ⟨fun _ _ _ h => (hRd _ _ _ h.rid).1, hJ k⟩
 have okX : ∀ k, BOk Gt (Bi w (fun Y => Jx Y k)) := fun k => ⟨fun _ _ _ h => hGx _ _ _ h.rid, hJx k⟩
 have c1 : ∀ k L w', Hp (Bi w (fun Y => J Y k)) L w' → RdP bb x w' := fun k L w' h => (hRd _ _ _ h.rid).2
 refine calls_of_X (G := Gt) Tryd.func62 rfl rfl (Hp (Bi w (fun Y => J Y 0)) []) (hp_refl (Bi w _) hj (hJ 0)) (good_hp (okJ 0)) ?_
 refine xs_plain (E := EE []) ?_
 refine lx_loadr rfl Tryd.isAgg42 Tryd.sizeOf42 (by simp) (fun w h => c1 _ _ w h) rfl rfl ?_
 refine lx_call rfl rfl ent49 (k6list _) rfl rfl ?_
 refine lx_move rfl rfl rfl ?_
 refine lx_nil ?_
 refine x_block ?_
 refine x_forB (ι := { i : Nat // i ≤ 3 }) (fun y => [(0, .func (.yield l) #[] #[]), (1, .pointer (some ⟨bb, 0, none⟩)), (6, TV3 (p3 x)), (7, I (y.1 : Int))]) (fun y => Bi w (fun Y => J Y y.1)) (fun y => []) (fun y => 3 - y.1) ⟨0, Nat.zero_le _⟩ (fun _ => okJ _) rfl ⟨rfl, rfl, rfl, rfl, trivial⟩ trivial ?_
 rintro ⟨i, hi⟩
 dsimp only
 refine xs_plain (E := EE []) ?_
 refine lx_bin rfl rfl (fun _ => rfl) (fun _ => bin_lss_i _ _ _) rfl rfl ?_
 refine lx_nil ?_
 refine x_seq ?_
 refine x_if rfl (fun hc => ?_) (fun hc => ?_)
 ·have hi2 : i < 3 := by simp at hc; omega
  refine x_skip ?_
  refine x_seq ?_
  refine x_block ?_
  refine xs_plain (E := EE []) ?_
  refine lx_move rfl rfl rfl ?_
  refine lx_idxF (FF (p3 x)) (i) rfl rfl Tryd.underlying76 Tryd.sizeOf37 Tryd.isAgg37 (by omega) (by omega) (fe2_len _) rfl rfl ?_
  refine lx_allocr 4 (okJ _) zv37 rfl rfl ?_
  intro b4
  refine lx_assign rfl rfl rfl ?_
  refine lx_storea 4 (okJ _) rfl rfl rfl Tryd.sizeOf37 (by simp) (by simp) (one_u64 _) rfl ?_
  refine lx_nil ?_
  refine xs_plain (E := EE []) ?_
  refine lx_move rfl rfl rfl ?_
  refine lx_move rfl rfl rfl ?_
  refine lx_loada 4 rfl rfl Tryd.isAgg37 Tryd.sizeOf37 (by simp) rfl rfl ?_
  refine lx_yield (hY.b (k := i) (PS_get x i (by omega)) w) (okJ _) (okX _) rfl rfl rfl rfl rfl ?_ ?_
  ·skip
   refine lx_un rfl (fun _ => un_not _) rfl rfl ?_
   refine lx_nil ?_
   refine x_false rfl ?_
   refine x_skip ?_
   refine x_plain (E := EE []) ?_
   refine lx_bin rfl rfl (fun _ => rfl) (fun _ => bin_add_i _ _ _ (by unfold inI; omega)) rfl rfl ?_
   refine lx_move rfl rfl rfl ?_
   refine lx_nil ?_
   repeat (refine kblk_n ?_)
   refine kseq_n ?_
   exact ⟨rfl, ⟨i + 1, by omega⟩, _, by show 3 - (i + 1) < 3 - i; omega, rfl, ⟨rfl, rfl, rfl, rfl, trivial⟩, trivial⟩
  ·skip
   refine lx_un rfl (fun _ => un_not _) rfl rfl ?_
   refine lx_nil ?_
   refine x_true rfl ?_
   refine x_ret ?_
   repeat (first | refine kseq_ret ?_ | refine kblk_ret ?_)
   repeat (first | refine kseq_x ?_ | refine kblk_x ?_ | refine kblk_p rfl ?_ | refine kseq_ret ?_ | refine kblk_ret ?_)
   exact kret_none rfl (fun w hw => ⟨⟨_, rfl⟩, .inr ⟨_, drop_yof (hJx _) hw.rid⟩⟩)
 ·obtain rfl : i = 3 := by simp at hc; omega
  refine x_exit ?_
  repeat (first | refine kseq_x ?_ | refine kblk_x ?_ | refine kblk_p rfl ?_ | refine kseq_ret ?_ | refine kblk_ret ?_)
  refine kend_none rfl (fun w hw => ⟨⟨_, rfl⟩, .inl ?_⟩)
  have := drop_yof (hJ _) hw.rid
  rw [PS_len]
  exact this
theorem k6one  : Pure Tryd.prog Gt 34 [] (EV6 K6.one) := (pcast rfl (V6 _) (pE TO22 Tryd.func34 [] (.inl (.inl [K6.one.1.1, K6.one.1.2, K6.one.2.1.1, K6.one.2.1.2, K6.one.2.2.1, K6.one.2.2.2])) (let t0 := on2; (.inl (.inl [t0.1, t0.2, 0, 0, 0, 0]), [])) [] (by kernel_rfl) ok_nil rfl))
theorem wq6rd {f : Nat} {g : W6} (en : Enters Tryd.prog f) (h : Pure Tryd.prog Gt f [] (EV6 g)) : Snd Tryd.prog Gt f (c0 q6.rd g) := c0_ok q6.rd en (pcast rfl (V6 _).symm h)
def TO23 : Tb Tryd.prog Gt := TO22.add (wq6rd (g := K6.one) ent34 k6one)
theorem k6equal (x y : W6) : Pure Tryd.prog Gt 33 [EV6 x, EV6 y] (.bool (decide (x = y))) := by
 intro w hw
 have hGF : BOk Gt (pl w) := gt_low.plain hw
 refine calls_of_XM (G := Gt) Tryd.func33 rfl rfl (Hp (pl w) []) (hp_refl (pl w) trivial rides_true) (good_hp hGF) ?_
 refine xs_plain (E := EE [50]) ?_
 refine lx_boxr 2 hGF rfl rfl rfl ?_
 intro b2
 refine lx_boxr 3 hGF rfl rfl rfl ?_
 intro b3
 refine lx_alloc 4 hGF Tryd.zeroValue4 rfl rfl ?_
 intro b4
 refine lx_nil ?_
 refine xs_plain (E := EE [50]) ?_
 refine lx_loada 3 rfl rfl Tryd.isAgg42 Tryd.sizeOf42 (by simp) rfl rfl ?_
 refine lx_call rfl rfl ent49 (k6list _) rfl rfl ?_
 refine lx_allocr 5 hGF zv76 rfl rfl ?_
 intro b5
 refine lx_storea 5 hGF rfl rfl rfl Tryd.sizeOf76 (by simp) (by simp) (one_u64 _) rfl ?_
 refine lx_nil ?_
 refine x_seq ?_
 refine xs_plain (E := EE [50]) ?_
 refine lx_loada 2 rfl rfl Tryd.isAgg42 Tryd.sizeOf42 (by simp) rfl rfl ?_
 refine lx_callE rfl rfl ent50 rfl rfl (fun w' hw' => (k6parts_calls x w' (hGF.g _ _ _ hw')).mono fun e' w'' h => ?_)
 obtain ⟨c1, rfl, hg, h1, ho⟩ := h
 refine ⟨_, _, rfl, good_hp hGF, hw'.news rides_true hg [(33, c1, ((fe (x.1).1 ++ fe (x.1).2) ++ ((fe (x.2.1).1 ++ fe (x.2.1).2) ++ (fe (x.2.2).1 ++ fe (x.2.2).2))).map U64, 42)] ?_ inj_one, ?_⟩
 ·intro n' b' c' t' hl
  rcases lkB_cons hl with ⟨_, e⟩ | ⟨_, hl⟩
  ·cases e; exact ⟨h1, ho⟩
  ·cases hl
 clear hw' hg h1 ho
 refine lx_nil ?_
 refine x_block ?_
 refine x_rangeQ (fun k => ∀ j, j < k → p3 x j = p3 y j) (fun _ => pl w) (fun _ _ => pl w) (fun _ => hGF) (fun _ _ => hGF) (fun _ => rfl) (fun _ _ => rfl) rfl rfl ent62 (k6seq c1 x) (fun v hv => by obtain ⟨k, hk, rfl⟩ := List.mem_map.1 hv; rfl) rfl (fun k => [(2, b2, ((fe (x.1).1 ++ fe (x.1).2) ++ ((fe (x.2.1).1 ++ fe (x.2.1).2) ++ (fe (x.2.2).1 ++ fe (x.2.2).2))).map U64, 42), (3, b3, ((fe (y.1).1 ++ fe (y.1).2) ++ ((fe (y.2.1).1 ++ fe (y.2.1).2) ++ (fe (y.2.2).1 ++ fe (y.2.2).2))).map U64, 42), (4, b4, [.bool false], 4), (5, b5, (FM (FF (p3 y)) 3).map U64, 76), (33, c1, ((fe (x.1).1 ++ fe (x.1).2) ++ ((fe (x.2.1).1 ++ fe (x.2.1).2) ++ (fe (x.2.2).1 ++ fe (x.2.2).2))).map U64, 42)]) (fun c _ L' => c = .ret ∧ lkB L' 4 = some (b4, [.bool false], 4) ∧ ¬ x = y) (fun j h => absurd h (Nat.not_lt_zero j)) ⟨rfl, rfl, rfl, rfl, rfl, trivial⟩ (fun k _ w' h => hp_row (n := 33) rfl w' h) ?_ ?_ ?_ (fun D c k L' hD h => by obtain ⟨rfl, hl, hne⟩ := h; refine kout_ret ?_; refine kblk_ret ?_; refine kseq_ret ?_; exact (kretM_1 (.inl rfl) rides_true (kret_ownb 4 rfl rfl hl Tryd.isAgg4 (fun w hw => ⟨congrArg (fun b => Ending.returned (.bool b)) (decide_eq_false hne).symm, hp_below hw⟩))))
 ·intro k v hx hQ R hR
  obtain ⟨hk, rfl⟩ := PS_at x k v hx
  refine xs_plain (E := EE [50]) ?_
  refine lx_assign rfl rfl rfl ?_
  refine lx_nil ?_
  refine x_plain (E := EE [50]) ?_
  refine lx_allocr 7 (hR (pl w) rfl hGF).1 zv37 rfl rfl ?_
  intro b7
  refine lx_storea 7 (hR (pl w) rfl hGF).1 rfl rfl rfl Tryd.sizeOf37 (by simp) (by simp) (one_u64 _) rfl ?_
  refine lx_nil ?_
  refine ⟨rfl, _, rfl, ?_⟩
  refine x_block ?_
  refine xs_drawn (E := EE [50]) mixed (by kernel_rfl) (by kernel_rfl) (by kernel_rfl) ?_
  refine lx_loada 7 rfl rfl Tryd.isAgg37 Tryd.sizeOf37 (by simp) rfl rfl ?_
  refine lx_move rfl rfl rfl ?_
  refine lx_iak (k) (12 * (k)) rfl rfl Tryd.underlying76 Tryd.sizeOf37 (by omega) (by omega) (by omega) rfl rfl ?_
  refine lx_loado 5 ((fe (p3 y k).1 ++ fe (p3 y k).2).map U64) rfl rfl Tryd.isAgg37 Tryd.sizeOf37 (by simp) (FF_load _ (p3 y k) 3 (k) _ (by omega) rfl (rfl)) rfl rfl ?_
  refine lx_call rfl rfl ent14 (e2equal _ _) rfl rfl ?_
  refine lx_un rfl (fun _ => un_not _) rfl rfl ?_
  refine lx_nil ?_
  refine x_if rfl (fun hc => ?_) (fun hc => ?_)
  ·have hc : ¬ p3 x k = p3 y k := by simpa using hc
   refine xs_plain (E := EE [50]) ?_
   refine lx_store 4 (hR (pl w) rfl hGF).2.1 rfl rfl rfl Tryd.sizeOf4 rfl (by simp [*]) rfl ?_
   refine lx_nil ?_
   refine x_ret ?_
   repeat (first | refine kseq_ret ?_ | refine kblk_ret ?_)
   repeat (first | refine kseq_ret ?_ | refine kblk_ret ?_)
   exact ⟨_, rfl, rfl, rfl, fun e => hc (by rw [e])⟩
  ·have hc : p3 x k = p3 y k := by simpa using hc
   refine x_skip ?_
   repeat (refine kblk_n ?_)
   exact ⟨_, rfl, subQ (lt_s hQ hc) ⟨rfl, rfl, rfl, rfl, rfl, trivial⟩⟩
 ·intro hQ D hD
  rw [PS_len] at *
  have hxy := p3_ext hQ
  refine xs_plain (E := EE [50]) ?_
  refine lx_store 4 hD rfl rfl rfl Tryd.sizeOf4 rfl (by simp [*]) rfl ?_
  refine lx_nil ?_
  refine x_ret ?_
  repeat (first | refine kseq_ret ?_ | refine kblk_ret ?_)
  exact kretM_1 (.inl rfl) rides_true (kret_ownb 4 rfl rfl rfl Tryd.isAgg4 (fun w hw => ⟨congrArg (fun b => Ending.returned (.bool b)) (decide_eq_true hxy).symm, hp_below hw⟩))
 ·intro D hb
  refine kblk_n ?_
  refine kseq_n ?_
  exact x_absurd hb
end Q6
end
end Go.Proofs.YthkmeodnlidpfaaDoor
