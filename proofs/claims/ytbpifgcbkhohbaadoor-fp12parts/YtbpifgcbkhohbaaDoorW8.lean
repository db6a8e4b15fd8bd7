/-
  What the law Fp12Parts walks.
-/
import Derived.Test.YtbpifgcbkhohbaaDoorW7
import Derived.Test.YtbpifgcbkhohbaaDoorW3
import Derived.Test.YtbpifgcbkhohbaaDoorX3
namespace Go.Proofs.YtbpifgcbkhohbaaDoor
open Go.RowKit
set_option maxRecDepth 100000
set_option maxHeartbeats 1000000
attribute [local simp] fe_len nm_len AS_len SS_len MONT_len RM_len FRs_len BYs_len by48_len PLl TWOl ONEl N1l IVPl HFPl RTPl FL_len SP_len fe2_len SP2_len FM_len FF_len
attribute [local simp] ff_len RW_len

theorem ent17 : Enters Tryd.prog 17 := fun _ _ => by kernel_rfl
theorem tiT : TI Tryd.prog 30 (.agg ((List.replicate 12 0#64).map U64).toArray) 12 96 := ti_mk (by kernel_rfl)
theorem FM_snoc (f : Nat → List (BitVec 64)) (k : Nat) (h : (f k).length = 12) : FM f (k + 1) = FM f k ++ f k := by
  apply List.ext_getElem?
  intro j
  rcases Nat.lt_or_ge j (12 * k) with hj | hj
  · rw [List.getElem?_append_left (by rw [FM_len]; exact hj), FM_get f (k + 1) j (by omega), FM_get f k j hj]
  · rw [List.getElem?_append_right (by rw [FM_len]; exact hj), FM_len]
    rcases Nat.lt_or_ge j (12 * (k + 1)) with h2 | h2
    · rw [FM_get f (k + 1) j h2, show j / 12 = k by omega, show j % 12 = j - 12 * k by omega, List.getElem?_eq_getElem (by omega), List.getD_eq_getElem?_getD, List.getElem?_eq_getElem (by omega)]; rfl
    · rw [List.getElem?_eq_none (by rw [FM_len]; exact h2), List.getElem?_eq_none (by omega)]
/-- The first parts, laid one behind the other. -/
def RWS (x : W12) (k : Nat) : List Value := (FM (FF (p12 x)) k).map U64
theorem RWS_s (x : W12) (k : Nat) : RWS x k ++ (fe (p12 x k).1 ++ fe (p12 x k).2).map U64 = RWS x (k + 1) := by
  show (FM (FF (p12 x)) k).map U64 ++ (FF (p12 x) k).map U64 = (FM (FF (p12 x)) (k + 1)).map U64
  rw [FM_snoc _ _ (ff_len _ _), List.map_append]
theorem RWS_len (x : W12) (k : Nat) : (RWS x k).length = k * 12 := by rw [RWS, List.length_map, FM_len, Nat.mul_comm]
theorem RWS_0 (x : W12) : RWS x 0 = [] := rfl
structure WkW where
  (a0 : Option Addr) (cap : Nat) (own : Hl)
theorem kout_exit {K : KK} {ds : List Deferred} {F : Fr} {C : Cls} {i : Nat} (h : K (.exit i) ds F C) : Kout K (.exit i) ds F C := h
theorem walk_calls (x : W12) (m : Nat) (hm1 : 1 ≤ m) (hm : m ≤ 6) (w : World) (hw : Gt w) :
    Calls Tryd.prog 17 [EV12 x, I (m : Int)].toArray w (fun e w' => ∃ b c cap, e = .returned (.tuple #[.slice (some ⟨b, 0, none⟩) m cap, .bool true]) ∧ Grow w w' ∧ w.heap.size ≤ b ∧ OwnB w' b c 30 ∧ c.take (RWS x m).length = RWS x m) := by
  have hGF : BOk Gt (pl w) := gt_low.plain hw
  refine calls_of_XM (G := Gt) Tryd.func17 rfl rfl (Hp (pl w) []) (hp_refl (pl w) trivial rides_true) (good_hp hGF) ?_
  refine xs_plain (E := EE [36]) ?_
  refine lx_boxr 2 hGF rfl rfl rfl ?_
  intro b2
  refine lx_box 3 hGF rfl rfl rfl ?_
  intro b3
  refine lx_assign rfl rfl rfl ?_
  refine lx_assign rfl rfl rfl ?_
  refine lx_nil ?_
  refine xs_plain (E := EE [36]) ?_
  refine lx_alloc 6 hGF Tryd.zeroValue48 rfl rfl ?_
  intro b6
  refine lx_nil ?_
  refine xs_plain (E := EE [36]) ?_
  refine lx_alloc 7 hGF Tryd.zeroValue4 rfl rfl ?_
  intro b7
  refine lx_store 7 hGF rfl rfl rfl Tryd.sizeOf4 rfl (by first | decide | simp) rfl ?_
  refine lx_nil ?_
  refine xs_plain (E := EE [36]) ?_
  refine lx_loada 2 rfl rfl Tryd.isAgg34 Tryd.sizeOf34 (by simp) rfl rfl ?_
  refine lx_callE rfl rfl ent36 rfl rfl (fun w' hw' => (k12parts_calls x w' (hGF.g _ _ _ hw')).mono fun e' w'' h => ?_)
  obtain ⟨c1, rfl, hg, h1, ho⟩ := h
  refine ⟨_, _, rfl, good_hp hGF, hw'.news rides_true hg [(33, c1, (((fe (x.1.1).1 ++ fe (x.1.1).2) ++ ((fe (x.1.2.1).1 ++ fe (x.1.2.1).2) ++ (fe (x.1.2.2).1 ++ fe (x.1.2.2).2))) ++ ((fe (x.2.1).1 ++ fe (x.2.1).2) ++ ((fe (x.2.2.1).1 ++ fe (x.2.2.1).2) ++ (fe (x.2.2.2).1 ++ fe (x.2.2.2).2)))).map U64, 34)] ?_ inj_one, ?_⟩
  · intro n' b' c' t' hl
    rcases lkB_cons hl with ⟨_, e⟩ | ⟨_, hl⟩
    · cases e; exact ⟨h1, ho⟩
    · cases hl
  clear hw' hg h1 ho
  refine lx_assign rfl rfl rfl ?_
  refine lx_nil ?_
  refine x_seq ?_
  refine xs_plain (E := EE [36]) ?_
  refine lx_move rfl rfl rfl ?_
  refine lx_bin (v := .bool false) rfl rfl (fun _ => rfl) (fun w => bin_eq_fn Tryd.underlying64 _ _ _ w) rfl rfl ?_
  refine lx_nil ?_
  refine x_false rfl ?_
  refine x_skip ?_
  refine x_seq ?_
  refine xs_plain (E := EE [36]) ?_
  refine lx_move rfl rfl rfl ?_
  refine lx_nil ?_
  refine x_block ?_
  refine x_rangeS (ι := Nat × WkW) (fun _ => pl w) (fun _ _ => pl w) (fun _ => hGF) (fun _ _ => hGF) (fun _ => rfl) (fun _ _ => rfl) rfl rfl ent55 (k12seq c1 x) (fun v hv => by obtain ⟨k, hk, rfl⟩ := List.mem_map.1 hv; rfl) rfl (fun k y => (y.1 = k ∧ k < m) ∧ OwnW ((2, b2, (((fe (x.1.1).1 ++ fe (x.1.1).2) ++ ((fe (x.1.2.1).1 ++ fe (x.1.2.1).2) ++ (fe (x.1.2.2).1 ++ fe (x.1.2.2).2))) ++ ((fe (x.2.1).1 ++ fe (x.2.1).2) ++ ((fe (x.2.2.1).1 ++ fe (x.2.2.1).2) ++ (fe (x.2.2.2).1 ++ fe (x.2.2.2).2)))).map U64, 34) :: (3, b3, [I (m : Int)], 3) :: (6, b6, [.slice y.2.a0 y.1 y.2.cap], 48) :: (7, b7, [.bool true], 4) :: (33, c1, (((fe (x.1.1).1 ++ fe (x.1.1).2) ++ ((fe (x.1.2.1).1 ++ fe (x.1.2.1).2) ++ (fe (x.1.2.2).1 ++ fe (x.1.2.2).2))) ++ ((fe (x.2.1).1 ++ fe (x.2.1).2) ++ ((fe (x.2.2.1).1 ++ fe (x.2.2.1).2) ++ (fe (x.2.2.2).1 ++ fe (x.2.2.2).2)))).map U64, 34) :: y.2.own) 50 30 12 y.2.a0 y.2.cap y.1 (RWS x y.1)) (fun y => (2, b2, (((fe (x.1.1).1 ++ fe (x.1.1).2) ++ ((fe (x.1.2.1).1 ++ fe (x.1.2.1).2) ++ (fe (x.1.2.2).1 ++ fe (x.1.2.2).2))) ++ ((fe (x.2.1).1 ++ fe (x.2.1).2) ++ ((fe (x.2.2.1).1 ++ fe (x.2.2.1).2) ++ (fe (x.2.2.2).1 ++ fe (x.2.2.2).2)))).map U64, 34) :: (3, b3, [I (m : Int)], 3) :: (6, b6, [.slice y.2.a0 y.1 y.2.cap], 48) :: (7, b7, [.bool true], 4) :: (33, c1, (((fe (x.1.1).1 ++ fe (x.1.1).2) ++ ((fe (x.1.2.1).1 ++ fe (x.1.2.1).2) ++ (fe (x.1.2.2).1 ++ fe (x.1.2.2).2))) ++ ((fe (x.2.1).1 ++ fe (x.2.1).2) ++ ((fe (x.2.2.1).1 ++ fe (x.2.2.1).2) ++ (fe (x.2.2.2).1 ++ fe (x.2.2.2).2)))).map U64, 34) :: y.2.own) (fun cd _ L' => cd = .exit 0 ∧ ∃ b c cap, lkB L' 6 = some (b6, [.slice (some ⟨b, 0, none⟩) m cap], 48) ∧ lkB L' 7 = some (b7, [.bool true], 4) ∧ lkB L' 50 = some (b, c, 30) ∧ c.take (RWS x m).length = RWS x m) (0, ⟨none, 0, []⟩) ⟨⟨rfl, by omega⟩, ownW_nil _ _ _ _⟩ ⟨rfl, rfl, rfl, rfl, rfl, trivial⟩ (fun k y Y w' hs h => hp_row (n := 33) rfl w' h) ?_ ?_ ?_
  · rintro k v hx ⟨k', s⟩ hs R hR
    obtain ⟨⟨hkk, hkm⟩, hs2⟩ := hs
    dsimp only at hkk hs2 ⊢
    have hkk := hkk.symm
    subst hkk
    obtain ⟨hk, rfl⟩ := PS12_at x k v hx
    refine xs_plain (E := EE [36]) ?_
    refine lx_assign rfl rfl rfl ?_
    refine lx_nil ?_
    refine x_plain (E := EE [36]) ?_
    refine lx_allocr 10 (hR (pl w) rfl hGF).1 zv30 rfl rfl ?_
    intro b10
    refine lx_storea 10 (hR (pl w) rfl hGF).1 rfl rfl rfl Tryd.sizeOf30 (by simp) (by simp) (one_u64 _) rfl ?_
    refine lx_nil ?_
    refine ⟨rfl, _, rfl, ?_⟩
    refine x_block ?_
    refine xs_plain (E := EE [36]) ?_
    refine lx_loadl 7 rfl rfl rfl Tryd.isAgg4 rfl rfl ?_
    refine lx_move rfl rfl rfl ?_
    refine lx_move rfl rfl rfl ?_
    refine lx_loadl 6 rfl rfl rfl Tryd.isAgg48 rfl rfl ?_
    refine lx_len (n := ((k : Nat) : Int)) rfl (fun _ => len_slice Tryd.underlying48 _ _ _ _) rfl rfl ?_
    refine lx_binB true rfl rfl (fun _ => rfl) (fun _ => bin_eql_i _ _ _) (decide_eq_true rfl) rfl rfl ?_
    refine lx_pick rfl rfl rfl rfl rfl ?_
    refine lx_store 7 (hR (pl w) rfl hGF).2.1 rfl rfl rfl Tryd.sizeOf4 rfl (by first | decide | simp) rfl ?_
    refine lx_nil ?_
    refine xs_plain (E := EE [36]) ?_
    refine lx_loadl 6 rfl rfl rfl Tryd.isAgg48 rfl rfl ?_
    refine lx_loada 10 rfl rfl Tryd.isAgg30 Tryd.sizeOf30 (by simp) rfl rfl ?_
    refine lx_bslW1 27 ((fe (p12 x k).1 ++ fe (p12 x k).2).map U64) (hR (pl w) rfl hGF).2.1 rfl (by simp) (by decide) (by decide) Tryd.underlying48 Tryd.sizeOf30 zv30 rfl rfl ?_
    intro b27
    refine lx_appendW (s := 12) (nx := k) (ny := 1) (xs := RWS x k) (ys := (fe (p12 x k).1 ++ fe (p12 x k).2).map U64) 50 (hR (pl w) rfl hGF).2.1 rfl rfl Tryd.underlying48 Tryd.underlying48 tiT rfl hs2 (by simp) (fun w' h => hp_row (n := 27) rfl w' h) (one_u64 _) (by decide) (by omega) (by omega) rfl rfl (fun b50 c50 cap50 e50 l50 t50 => ?_)
    rw [RWS_s] at t50
    refine lx_store 6 (hR (pl w) rfl hGF).2.1 rfl rfl rfl Tryd.sizeOf48 rfl (by first | decide | simp) rfl ?_
    refine lx_nil ?_
    refine xs_plain (E := EE [36]) ?_
    refine lx_loadl 6 rfl rfl rfl Tryd.isAgg48 rfl rfl ?_
    refine lx_len (n := ((k + 1 : Nat) : Int)) rfl (fun _ => len_slice Tryd.underlying48 _ _ _ _) rfl rfl ?_
    refine lx_loadl 3 rfl rfl rfl Tryd.isAgg3 rfl rfl ?_
    refine lx_bin rfl rfl (fun _ => rfl) (fun _ => bin_geq_i _ _ _) rfl rfl ?_
    refine lx_nil ?_
    refine x_if rfl (fun hc => ?_) (fun hc => ?_)
    · obtain rfl : k + 1 = m := by simp at hc; omega
      refine x_exit ?_
      repeat (first | refine kseq_x ?_ | refine kblk_x ?_ | refine kblk_p rfl ?_)
      exact ⟨_, rfl, rfl, b50, c50, cap50, rfl, rfl, rfl, t50⟩
    · have hc2 : k + 1 < m := by simp at hc; omega
      refine x_skip ?_
      exact ⟨_, rfl, (k + 1, ⟨some ⟨b50, 0, none⟩, cap50, [(50, b50, c50, 30)]⟩), ⟨⟨rfl, by omega⟩, .inr ⟨b50, c50, rfl, rfl, e50, l50, RWS_len _ _, t50⟩⟩, ⟨rfl, rfl, rfl, rfl, rfl, rfl, trivial⟩⟩
  · rintro D ⟨k', s⟩ ⟨⟨hkk, hkm⟩, hs2⟩ hD
    rw [PS12_len] at hkm
    exact absurd hkm (by omega)
  · rintro D cd k L' hD ⟨rfl, b, c, cap, h6, h7, h50, ht⟩
    refine kout_exit ?_
    repeat (first | refine kseq_x ?_ | refine kblk_x ?_ | refine kblk_p rfl ?_)
    refine xs_drawn (E := EE [36]) mixed (by kernel_rfl) (by kernel_rfl) (by kernel_rfl) ?_
    refine lx_loadl 6 rfl h6 rfl Tryd.isAgg48 rfl rfl ?_
    refine lx_loadl 7 rfl h7 rfl Tryd.isAgg4 rfl rfl ?_
    refine lx_assign rfl rfl rfl ?_
    refine lx_assign rfl rfl rfl ?_
    refine lx_nil ?_
    refine x_ret ?_
    repeat (first | refine kseq_ret ?_ | refine kblk_ret ?_)
    exact kretM_1 (.inl rfl) rides_true (kret_tt rfl rfl rfl (fun w' hw' => ⟨b, c, cap, rfl, hp_below hw', (hw'.own 50 b c _ h50).2.elim id False.elim, (hw'.own 50 b c _ h50).1, ht⟩))
end Go.Proofs.YtbpifgcbkhohbaaDoor
