/-
  The program's branches.
-/
import Derived.Test.YtfnnbaoilldpaaaDoorUD
import Derived.Test.YtfnnbaoilldpaaaDoorX2
import Derived.Test.YtfnnbaoilldpaaaDoorX3
namespace Go.Proofs.YtfnnbaoilldpaaaDoor
open Go.RowKit
set_option maxRecDepth 100000
set_option maxHeartbeats 1000000
open Sh
theorem ent18 : Enters Tryd.prog 18 := fun _ _ => by kernel_rfl
structure BrS where
  (k : Nat) (a : Option Addr) (cap : Nat) (own : Hl) (ob ocap : Nat) (oc : List Value)
/-- How far the program's branch has come. -/
structure BrOk (w : World) (D : Nat) (l0 : List Rt) (x : Nat) (k : Nat) (s : BrS) : Prop where
  e : k = s.k
  hk : k ≤ D
  hc : s.oc.length = s.ocap * 32
  hn : k ≤ s.ocap
  ht : s.oc.take (32 * k) = ((brF P2 Z0 D l0 x).take k).flatten.map U8
  hf : ∀ m, m ≠ 46 → lkB s.own m = none
  hR : ∀ w', Grow w w' → (∀ b c, lkB s.own 46 = some (b, c, 29) → OwnB w' b c 29) → RtsAt w' s.a (lev P2 Z0 k l0)
theorem row_no {n b : Nat} {c : List Value} {t : TypeId} : ∀ m, m ≠ n → lkB [(n, b, c, t)] m = none := fun m h => by
  show (bif Nat.beq n m then _ else lkB [] m) = none
  rw [show Nat.beq n m = false from by cases hb : Nat.beq n m; rfl; exact absurd (Nat.eq_of_beq_eq_true hb).symm h]; rfl
theorem plc_v {D : Nat} (hD : D ≤ 31) (x : BitVec 64) : x &&& (1#64 <<< D - 1#64) = BitVec.ofNat 64 (x.toNat % 2 ^ D) := by
  have hlt : 2 ^ D ≤ 2 ^ 31 := Nat.pow_le_pow_right (by decide) hD
  have hpos := Nat.two_pow_pos D
  have h31 : 2 ^ 31 = 2147483648 := rfl
  have e : (1#64 <<< D - 1#64).toNat = 2 ^ D - 1 := by
    rw [BitVec.toNat_sub, BitVec.toNat_shiftLeft, Nat.shiftLeft_eq]
    show (18446744073709551616 - 1 + 1 * 2 ^ D % 18446744073709551616) % 18446744073709551616 = _
    omega
  apply BitVec.eq_of_toNat_eq
  have hm := Nat.mod_lt x.toNat hpos
  rw [BitVec.toNat_and, e, Nat.and_two_pow_sub_one_eq_mod, BitVec.toNat_ofNat, Nat.mod_eq_of_lt (show x.toNat % 2 ^ D < 2 ^ 64 by omega)]
theorem sis_t {q : Nat} (hq : q < 2147483648) (h : q.testBit 0 = true) : (BitVec.ofNat 64 q - 1#64).toNat = sis q := by
  have h1 : q % 2 = 1 := by simpa [Nat.testBit_zero] using h
  unfold sis
  rw [h, cond_true, BitVec.toNat_sub, BitVec.toNat_ofNat]
  show (18446744073709551616 - 1 + q % 18446744073709551616) % 18446744073709551616 = _
  omega
theorem sis_f {q : Nat} (hq : q < 2147483648) (h : q.testBit 0 = false) : (BitVec.ofNat 64 q + 1#64).toNat = sis q := by
  unfold sis
  rw [h, cond_false, BitVec.toNat_add, BitVec.toNat_ofNat]
  show (q % 18446744073709551616 + 1) % 18446744073709551616 = _
  omega
theorem half_v {q k : Nat} (hq : q < 2147483648) : BitVec.ofNat 64 (q / 2 ^ k) / 2#64 = BitVec.ofNat 64 (q / 2 ^ (k + 1)) := by
  have h1 := Nat.div_le_self q (2 ^ k)
  have h2 := Nat.div_le_self q (2 ^ (k + 1))
  have e1 : (BitVec.ofNat 64 (q / 2 ^ k)).toNat = q / 2 ^ k := by rw [BitVec.toNat_ofNat]; exact Nat.mod_eq_of_lt (Nat.lt_of_le_of_lt h1 (by omega))
  have e2 : (BitVec.ofNat 64 (q / 2 ^ (k + 1))).toNat = q / 2 ^ (k + 1) := by rw [BitVec.toNat_ofNat]; exact Nat.mod_eq_of_lt (Nat.lt_of_le_of_lt h2 (by omega))
  apply BitVec.eq_of_toNat_eq
  rw [BitVec.toNat_udiv, e1, e2, Nat.pow_succ, ← Nat.div_div_eq_div_mul]
  rfl
theorem br_tk {D k : Nat} {l0 : List Rt} (hl : AllR l0) {x : Nat} (hk : k ≤ D) : (((brF P2 Z0 D l0 x).take k).flatten.map U8).length = k * 32 := by
  rw [List.length_map, flat_len _ ((brF_all D l0 hl).take k), List.length_take, brF_len, Nat.min_eq_left hk, Nat.mul_comm]
theorem br_st {D k : Nat} {l0 : List Rt} {x : Nat} (hk : k < D) : ((brF P2 Z0 D l0 x).take (k + 1)).flatten.map U8 = ((brF P2 Z0 D l0 x).take k).flatten.map U8 ++ ((lev P2 Z0 k l0).getD (sis (x % 2 ^ D / 2 ^ k)) (zrT P2 Z0 k)).map U8 := by
  rw [brF_take P2 Z0 x D l0 k hk, List.flatten_append, List.map_append]; simp
theorem mbra_calls (D : Nat) (hD : D ≤ 31) (l : List Rt) (hl : AllR l) (hln : l.length ≤ 65536) (a : Option Addr) (cap : Nat) (hc : l.length ≤ cap) (x0 : BitVec 64) (w : World) (hw : Gt w) (hr : RtsAt w a l) :
    Calls Tryd.prog 18 [.slice a l.length cap, I (D : Int), U64 x0].toArray w (fun e w' => ∃ v, e = .returned v ∧ Grow w w' ∧ FrL w w' v (brF P2 Z0 D (l.take (2 ^ D)) x0.toNat)) := by
  have hGF : BOk Gt (pl w) := gt_low.plain hw
  have hmin : min l.length (2 ^ D) = (lev P2 Z0 0 (l.take (2 ^ D))).length := by show _ = (l.take (2 ^ D)).length; rw [List.length_take, Nat.min_comm]
  have hQ31 : (x0.toNat % 2 ^ D) < 2147483648 := Nat.lt_of_lt_of_le (Nat.mod_lt _ (Nat.two_pow_pos D)) (Nat.pow_le_pow_right (show 0 < 2 by decide) hD)
  refine calls_of_XM (G := Gt) Tryd.func18 rfl rfl (Hp (pl w) []) (hp_refl (pl w) trivial rides_true) (good_hp hGF) ?_
  refine xs_plain (E := EE [34]) ?_
  refine lx_assign rfl rfl rfl ?_
  refine lx_nil ?_
  refine xs_plain (E := EE [34]) ?_
  refine lx_move rfl rfl rfl ?_
  refine lx_callC rfl rfl ent32 (fun w' _ hG => bounded_calls (D : Int) w' hG) rfl rfl ?_
  rw [show min (D : Int).toNat 64 = D from by omega]
  refine lx_assign rfl rfl rfl ?_
  refine lx_nil ?_
  refine xs_plain (E := EE [34]) ?_
  refine lx_move rfl rfl rfl ?_
  refine lx_move rfl rfl rfl ?_
  refine lx_callC rfl rfl ent33 (fun w' _ hG => first_calls a l.length cap D hc (by omega) (by omega) w' hG) rfl rfl ?_
  refine lx_build (ps := [(0, .tmp 16)]) (vs := [.slice a (min l.length (2 ^ D)) cap]) rfl (fun w => bldL1 _ _ _ w) rfl rfl ?_
  rw [hmin]
  refine lx_allocr 7 hGF zvL rfl rfl ?_
  intro b7
  refine lx_storea 7 hGF rfl rfl rfl Tryd.sizeOf57 (LC_len (Z0_len)) (LC_len (Z0_len)) (LC_one _ _ _ _) rfl ?_
  refine lx_nil ?_
  refine xs_plain (E := EE [34]) ?_
  refine lx_move rfl rfl rfl ?_
  refine lx_move rfl rfl rfl ?_
  refine lx_bin (v := U64 (1#64 <<< D)) rfl rfl (fun _ => rfl) (fun _ => (bin_shl_i_u64 _ 1#64 _ (by omega)).trans (by rw [Int.toNat_natCast])) rfl rfl ?_
  refine lx_bin rfl rfl (fun _ => rfl) (fun _ => bin_sub_u64 _ _ _) rfl rfl ?_
  refine lx_bin (v := U64 (BitVec.ofNat 64 (x0.toNat % 2 ^ D))) rfl rfl (fun _ => rfl) (fun _ => (bin_and_u64 _ _ _).trans (by rw [plc_v hD])) rfl rfl ?_
  refine lx_alloc 8 hGF Tryd.zeroValue37 rfl rfl ?_
  intro b8
  refine lx_store 8 hGF rfl rfl rfl Tryd.sizeOf37 rfl (by first | exact Nat.zero_lt_one | simp) rfl ?_
  refine lx_nil ?_
  refine xs_plain (E := EE [34]) ?_
  refine lx_move rfl rfl rfl ?_
  refine lx_mkslC (l := 0) (m := D) (c := (List.replicate (32 * D) 0#8).map U8) 24 hGF rfl rfl (Nat.zero_le _) Tryd.underlying22 tiR ⟨by omega, by omega, by omega⟩ (madeR D) rfl rfl ?_
  intro b24
  refine lx_alloc 9 hGF Tryd.zeroValue22 rfl rfl ?_
  intro b9
  refine lx_store 9 hGF rfl rfl rfl Tryd.sizeOf22 rfl (by first | exact Nat.zero_lt_one | simp) rfl ?_
  refine lx_nil ?_
  refine x_seq ?_
  refine xs_plain (E := EE [34]) ?_
  refine lx_loadl 8 rfl rfl rfl Tryd.isAgg37 rfl rfl ?_
  refine lx_move rfl rfl rfl ?_
  refine lx_callE rfl rfl ent34 rfl rfl (fun w1 hC => (Steps_calls _ (D : Int) w1 (hGF.g _ _ _ hC)).mono fun e1 w2 h => ?_)
  rw [show min (D : Int).toNat 64 = D from by omega] at h
  obtain ⟨bc, bi, rfl, hg, h1, h2, hne, hs⟩ := h
  refine ⟨_, _, rfl, good_hp hGF, hC.news rides_true hg [(101, bc, _, 3), (102, bi, _, 37)] (row2 h1 h2 hs.c hs.i) (inj_two hne), ?_⟩
  clear hC hg h1 h2 hs hne
  refine lx_nil ?_
  refine x_block ?_
  have h00 : (x0.toNat % 2 ^ D) / 2 ^ 0 = (x0.toNat % 2 ^ D) := by rw [Nat.pow_zero, Nat.div_one]
  refine x_rangeS (ι := BrS) (fun _ => pl w) (fun _ _ => pl w) (fun _ => hGF) (fun _ _ => hGF) (fun _ => rfl) (fun _ _ => rfl) rfl rfl ent42 (steps_seq bc bi D (by omega) _) (fun v hv => by obtain ⟨k, hk, rfl⟩ := List.mem_map.1 hv; rfl) rfl (BrOk w D (l.take (2 ^ D)) x0.toNat) (fun s => (7, b7, LC s.a (lev P2 Z0 s.k (l.take (2 ^ D))).length s.cap (zrT P2 Z0 s.k), 57) :: (8, b8, [U64 (BitVec.ofNat 64 ((x0.toNat % 2 ^ D) / 2 ^ s.k))], 37) :: (9, b9, [.slice (some ⟨s.ob, 0, none⟩) s.k s.ocap], 22) :: (24, s.ob, s.oc, 29) :: (101, bc, [I (D : Int)], 3) :: (102, bi, [U64 (BitVec.ofNat 64 (x0.toNat % 2 ^ D))], 37) :: s.own) (fun _ _ _ => False) (⟨0, a, cap, [], b24, D, (List.replicate (32 * D) 0#8).map U8⟩ : BrS) ⟨rfl, Nat.zero_le _, by rw [List.length_map, List.length_replicate, Nat.mul_comm], Nat.zero_le _, by rfl, fun _ _ => rfl, fun w' hg _ => (hr.take _).grow hg⟩ ⟨rfl, by rw [h00]; rfl, rfl, rfl, rfl, rfl, trivial⟩ (fun k s _ w' _ h => ⟨(h.own 101 _ _ _ rfl).1, (h.own 102 _ _ _ rfl).1⟩) ?_ ?_ (fun _ _ _ _ _ h => h.elim)
  · rintro k v hv ⟨k', a', cap', own, ob, ocap, oc⟩ ⟨rfl, hk, hoc, hok, hot, hof, hR'⟩ R hR
    dsimp only at hoc hok hot hof hR' ⊢
    have hgw : ∀ L w', Hp (R.b (pl w)) L w' → Grow w w' := fun L w' h => ((hR (pl w) rfl hGF).2.2 _ _ _ h).elim fun _ h2 => h2.below (fun _ h => h)
    have hgb := (hR (pl w) rfl hGF).2.1
    obtain ⟨hkD, rfl⟩ := StV_at hv
    have hsk : ((lev P2 Z0 k (l.take (2 ^ D))).getD (sis ((x0.toNat % 2 ^ D) / 2 ^ k)) (zrT P2 Z0 k)).length = 32 := getD_len (lev_all (hl.take _) k) (zr_len k) _
    have hq31 : (x0.toNat % 2 ^ D) / 2 ^ k < 2147483648 := Nat.lt_of_le_of_lt (Nat.div_le_self _ _) hQ31
    rw [show (BitVec.ofNat 64 (x0.toNat % 2 ^ D)).toNat = (x0.toNat % 2 ^ D) from by rw [BitVec.toNat_ofNat]; omega]
    have hbt : ((x0.toNat % 2 ^ D) / 2 ^ k).testBit 0 = (x0.toNat % 2 ^ D).testBit k := by rw [Nat.testBit_div_two_pow, Nat.zero_add]
    cases hbit : (x0.toNat % 2 ^ D).testBit k
    · skip
      have hb0 : ((x0.toNat % 2 ^ D) / 2 ^ k).testBit 0 = false := hbt.trans hbit
      refine x_plain (E := EE [34]) ?_
      refine lx_assign rfl rfl rfl ?_
      refine lx_nil ?_
      refine ⟨rfl, _, rfl, ?_⟩
      refine x_block ?_
      refine x_seq ?_
      refine xs_plain (E := EE [34]) ?_
      refine lx_move rfl rfl rfl ?_
      refine lx_nil ?_
      refine x_false rfl ?_
      refine x_drawn (E := EE [2999998]) mixed (by kernel_rfl) (by kernel_rfl) (by kernel_rfl) ?_
      refine lx_loadl 9 rfl rfl rfl Tryd.isAgg22 rfl rfl ?_
      refine lx_loada 7 rfl rfl Tryd.isAgg57 Tryd.sizeOf57 (LC_len (zr_len _)) rfl rfl ?_
      refine lx_loadl 8 rfl rfl rfl Tryd.isAgg37 rfl rfl ?_
      refine lx_bin rfl rfl (fun _ => rfl) (fun _ => bin_add_u64 _ _ _) rfl rfl ?_
      refine lx_callC rfl rfl ent35 (fun w' hw' hG => at_calls _ (lev_all (hl.take _) k) (Nat.le_trans (lev_len P2 Z0 k _) (by rw [List.length_take]; omega)) _ (zr_len k) _ _ _ w' hG (hR' w' (hgw _ w' hw') (fun b c h => (hw'.own 46 b c _ h).1))) rfl rfl ?_
      rw [sis_f hq31 hb0]
      refine lx_bslWG (uf := U8) (s := 32) 43 (fun _ => ((lev P2 Z0 k (l.take (2 ^ D))).getD (sis ((x0.toNat % 2 ^ D) / 2 ^ k)) (zrT P2 Z0 k))) (List.replicate 32 0#8) hgb (hof 43 (by decide)) rfl rfl (fun i hi => hsk) (by decide) (by decide) Tryd.underlying22 Tryd.sizeOf29 rfl zv29 rfl rfl ?_
      intro b43
      rw [RW_one hsk]
      refine lx_appendW (s := 32) (nx := k) (ny := 1) (xs := ((brF P2 Z0 D (l.take (2 ^ D)) x0.toNat).take k).flatten.map U8) (ys := ((lev P2 Z0 k (l.take (2 ^ D))).getD (sis ((x0.toNat % 2 ^ D) / 2 ^ k)) (zrT P2 Z0 k)).map U8) 24 hgb rfl rfl Tryd.underlying22 Tryd.underlying22 tiR rfl (.inr ⟨ob, oc, rfl, rfl, hoc, hok, br_tk (hl.take _) hk, by rw [br_tk (hl.take _) hk, Nat.mul_comm]; exact hot⟩) (by rw [List.length_map, hsk]) (fun w' h => hp_row (n := 43) rfl w' h) (one_u8 _) (by decide) (by omega) (by omega) rfl rfl (fun bQ cQ capQ eQ lQ tQ => ?_)
      refine lx_store 9 hgb rfl rfl rfl Tryd.sizeOf22 rfl (by first | exact Nat.zero_lt_one | simp) rfl ?_
      refine lx_nil ?_
      refine x_drawK (E := EE [36]) (fun X => X = Hp (R.b (pl w)) [(8, b8, [U64 (BitVec.ofNat 64 ((x0.toNat % 2 ^ D) / 2 ^ k))], 37)]) (fun o => mkC [36] o || mkB [7] o) (rkB [47]) [0, 2, 3, 1, 4, 5] mixed rfl (by kernel_rfl) (by kernel_rfl) (by kernel_rfl) ?_
      refine lxk_s rfl rfl ?_
      refine lx_loada 7 rfl rfl Tryd.isAgg57 Tryd.sizeOf57 (LC_len (zr_len _)) rfl rfl ?_
      refine lx_nil ?_
      refine lxk_q (X := Hp (R.b (pl w)) [(8, b8, [U64 (BitVec.ofNat 64 ((x0.toNat % 2 ^ D) / 2 ^ k))], 37)]) rfl (hp_sub hgb.r ⟨rfl, trivial⟩) (fun _ => rfl) ?_
      refine lx_loadl 8 rfl rfl rfl Tryd.isAgg37 rfl rfl ?_
      refine lx_nil ?_
      refine lxk_s rfl rfl ?_
      refine lx_bin (v := U64 (BitVec.ofNat 64 ((x0.toNat % 2 ^ D) / 2 ^ (k + 1)))) rfl rfl (fun _ => rfl) (fun _ => (bin_quo_u64 _ _ _ (by decide)).trans (by rw [half_v hQ31])) rfl rfl ?_
      refine lx_nil ?_
      refine lxk_e rfl ?_
      refine lx_callE rfl rfl ent36 rfl rfl (fun w' hw' => (up_calls _ (lev_all (hl.take _) k) (Nat.le_trans (lev_len P2 Z0 k _) (by rw [List.length_take]; omega)) _ (zr_len k) _ _ w' (hgb.g _ _ _ hw') (hR' w' (hgw _ w' hw') (fun b c h => (hw'.own 46 b c _ h).1))).mono fun e1 w2 h9 => ?_)
      obtain ⟨_, rfl, hg, bU, cU, capU, rfl, hbU, hoU, htU⟩ := h9
      rw [← lev_s] at htU ⊢
      rw [← zrT_s]
      refine ⟨_, _, rfl, good_hp hgb, hw'.news hgb.r hg [(46, bU, cU, 29)] (row1 hbU hoU) inj_one, ?_⟩
      clear hw' hg hbU hoU
      refine lx_nil ?_
      refine ⟨fun _ X hX _ => by subst hX; exact hp_sub hgb.r ⟨rfl, trivial⟩, ?_⟩
      refine lxk_e rfl ?_
      refine lx_storea 7 hgb rfl rfl rfl Tryd.sizeOf57 (LC_len (zr_len _)) (LC_len (zr_len _)) (LC_one _ _ _ _) rfl ?_
      refine lx_nil ?_
      refine ⟨fun _ X hX _ => by subst hX; exact hp_sub hgb.r ⟨rfl, trivial⟩, ?_⟩
      refine lxk_e rfl ?_
      refine lx_store 8 hgb rfl rfl rfl Tryd.sizeOf37 rfl (by first | exact Nat.zero_lt_one | simp) rfl ?_
      refine lx_nil ?_
      refine ⟨fun h => (by cases h), ?_⟩
      refine lxk_nil ?_
      repeat (refine kblk_n ?_)
      exact ⟨_, rfl, ⟨k + 1, some ⟨bU, 0, none⟩, capU, [(46, bU, cU, 29)], bQ, capQ, cQ⟩, ⟨rfl, hkD, eQ, lQ, by rw [br_st hkD, ← tQ, ← br_st hkD, br_tk (hl.take _) hkD, Nat.mul_comm], row_no, fun w' _ ho => rts_own (lev_all (hl.take _) (k + 1)) (ho bU cU rfl).range htU⟩, ⟨rfl, rfl, rfl, rfl, rfl, rfl, rfl, trivial⟩⟩
    · skip
      have hb0 : ((x0.toNat % 2 ^ D) / 2 ^ k).testBit 0 = true := hbt.trans hbit
      refine x_plain (E := EE [34]) ?_
      refine lx_assign rfl rfl rfl ?_
      refine lx_nil ?_
      refine ⟨rfl, _, rfl, ?_⟩
      refine x_block ?_
      refine x_seq ?_
      refine xs_plain (E := EE [34]) ?_
      refine lx_move rfl rfl rfl ?_
      refine lx_nil ?_
      refine x_true rfl ?_
      refine x_drawn (E := EE [2999998]) mixed (by kernel_rfl) (by kernel_rfl) (by kernel_rfl) ?_
      refine lx_loadl 9 rfl rfl rfl Tryd.isAgg22 rfl rfl ?_
      refine lx_loada 7 rfl rfl Tryd.isAgg57 Tryd.sizeOf57 (LC_len (zr_len _)) rfl rfl ?_
      refine lx_loadl 8 rfl rfl rfl Tryd.isAgg37 rfl rfl ?_
      refine lx_bin rfl rfl (fun _ => rfl) (fun _ => bin_sub_u64 _ _ _) rfl rfl ?_
      refine lx_callC rfl rfl ent35 (fun w' hw' hG => at_calls _ (lev_all (hl.take _) k) (Nat.le_trans (lev_len P2 Z0 k _) (by rw [List.length_take]; omega)) _ (zr_len k) _ _ _ w' hG (hR' w' (hgw _ w' hw') (fun b c h => (hw'.own 46 b c _ h).1))) rfl rfl ?_
      rw [sis_t hq31 hb0]
      refine lx_bslWG (uf := U8) (s := 32) 36 (fun _ => ((lev P2 Z0 k (l.take (2 ^ D))).getD (sis ((x0.toNat % 2 ^ D) / 2 ^ k)) (zrT P2 Z0 k))) (List.replicate 32 0#8) hgb (hof 36 (by decide)) rfl rfl (fun i hi => hsk) (by decide) (by decide) Tryd.underlying22 Tryd.sizeOf29 rfl zv29 rfl rfl ?_
      intro b36
      rw [RW_one hsk]
      refine lx_appendW (s := 32) (nx := k) (ny := 1) (xs := ((brF P2 Z0 D (l.take (2 ^ D)) x0.toNat).take k).flatten.map U8) (ys := ((lev P2 Z0 k (l.take (2 ^ D))).getD (sis ((x0.toNat % 2 ^ D) / 2 ^ k)) (zrT P2 Z0 k)).map U8) 24 hgb rfl rfl Tryd.underlying22 Tryd.underlying22 tiR rfl (.inr ⟨ob, oc, rfl, rfl, hoc, hok, br_tk (hl.take _) hk, by rw [br_tk (hl.take _) hk, Nat.mul_comm]; exact hot⟩) (by rw [List.length_map, hsk]) (fun w' h => hp_row (n := 36) rfl w' h) (one_u8 _) (by decide) (by omega) (by omega) rfl rfl (fun bQ cQ capQ eQ lQ tQ => ?_)
      refine lx_store 9 hgb rfl rfl rfl Tryd.sizeOf22 rfl (by first | exact Nat.zero_lt_one | simp) rfl ?_
      refine lx_nil ?_
      refine x_drawK (E := EE [36]) (fun X => X = Hp (R.b (pl w)) [(8, b8, [U64 (BitVec.ofNat 64 ((x0.toNat % 2 ^ D) / 2 ^ k))], 37)]) (fun o => mkC [36] o || mkB [7] o) (rkB [47]) [0, 2, 3, 1, 4, 5] mixed rfl (by kernel_rfl) (by kernel_rfl) (by kernel_rfl) ?_
      refine lxk_s rfl rfl ?_
      refine lx_loada 7 rfl rfl Tryd.isAgg57 Tryd.sizeOf57 (LC_len (zr_len _)) rfl rfl ?_
      refine lx_nil ?_
      refine lxk_q (X := Hp (R.b (pl w)) [(8, b8, [U64 (BitVec.ofNat 64 ((x0.toNat % 2 ^ D) / 2 ^ k))], 37)]) rfl (hp_sub hgb.r ⟨rfl, trivial⟩) (fun _ => rfl) ?_
      refine lx_loadl 8 rfl rfl rfl Tryd.isAgg37 rfl rfl ?_
      refine lx_nil ?_
      refine lxk_s rfl rfl ?_
      refine lx_bin (v := U64 (BitVec.ofNat 64 ((x0.toNat % 2 ^ D) / 2 ^ (k + 1)))) rfl rfl (fun _ => rfl) (fun _ => (bin_quo_u64 _ _ _ (by decide)).trans (by rw [half_v hQ31])) rfl rfl ?_
      refine lx_nil ?_
      refine lxk_e rfl ?_
      refine lx_callE rfl rfl ent36 rfl rfl (fun w' hw' => (up_calls _ (lev_all (hl.take _) k) (Nat.le_trans (lev_len P2 Z0 k _) (by rw [List.length_take]; omega)) _ (zr_len k) _ _ w' (hgb.g _ _ _ hw') (hR' w' (hgw _ w' hw') (fun b c h => (hw'.own 46 b c _ h).1))).mono fun e1 w2 h9 => ?_)
      obtain ⟨_, rfl, hg, bU, cU, capU, rfl, hbU, hoU, htU⟩ := h9
      rw [← lev_s] at htU ⊢
      rw [← zrT_s]
      refine ⟨_, _, rfl, good_hp hgb, hw'.news hgb.r hg [(46, bU, cU, 29)] (row1 hbU hoU) inj_one, ?_⟩
      clear hw' hg hbU hoU
      refine lx_nil ?_
      refine ⟨fun _ X hX _ => by subst hX; exact hp_sub hgb.r ⟨rfl, trivial⟩, ?_⟩
      refine lxk_e rfl ?_
      refine lx_storea 7 hgb rfl rfl rfl Tryd.sizeOf57 (LC_len (zr_len _)) (LC_len (zr_len _)) (LC_one _ _ _ _) rfl ?_
      refine lx_nil ?_
      refine ⟨fun _ X hX _ => by subst hX; exact hp_sub hgb.r ⟨rfl, trivial⟩, ?_⟩
      refine lxk_e rfl ?_
      refine lx_store 8 hgb rfl rfl rfl Tryd.sizeOf37 rfl (by first | exact Nat.zero_lt_one | simp) rfl ?_
      refine lx_nil ?_
      refine ⟨fun h => (by cases h), ?_⟩
      refine lxk_nil ?_
      repeat (refine kblk_n ?_)
      exact ⟨_, rfl, ⟨k + 1, some ⟨bU, 0, none⟩, capU, [(46, bU, cU, 29)], bQ, capQ, cQ⟩, ⟨rfl, hkD, eQ, lQ, by rw [br_st hkD, ← tQ, ← br_st hkD, br_tk (hl.take _) hkD, Nat.mul_comm], row_no, fun w' _ ho => rts_own (lev_all (hl.take _) (k + 1)) (ho bU cU rfl).range htU⟩, ⟨rfl, rfl, rfl, rfl, rfl, rfl, rfl, trivial⟩⟩
  · rintro D' ⟨k', a', cap', own, ob, ocap, oc⟩ ⟨e', hk, hoc, hok, hot, hof, hR'⟩ hD'
    rw [StV_len] at e' hk hok hot
    dsimp only at e' hoc hok hot ⊢
    subst e'
    refine xs_plain (E := EE [34]) ?_
    refine lx_loadl 9 rfl rfl rfl Tryd.isAgg22 rfl rfl ?_
    refine lx_assign rfl rfl rfl ?_
    refine lx_nil ?_
    refine x_ret ?_
    repeat (first | refine kseq_ret ?_ | refine kblk_ret ?_)
    exact kretM_1 (.inl rfl) rides_true (kret_tmp rfl rfl (fun w' hw' => ⟨_, rfl, hp_below hw', some ⟨ob, 0, none⟩, ocap, by rw [brF_len], by rw [brF_len]; exact .inr ⟨ob, oc, rfl, (hw'.own 24 _ _ _ rfl).1, hoc, hok, by rw [List.length_map, flat_len _ (brF_all D _ (hl.take _)), brF_len, Nat.mul_comm], by rw [List.length_map, flat_len _ (brF_all D _ (hl.take _)), brF_len, hot, List.take_of_length_le (Nat.le_of_eq (brF_len ..))]⟩, fun ad e => by cases e; exact (hw'.own 24 _ _ _ rfl).2.elim id False.elim⟩))
end Go.Proofs.YtfnnbaoilldpaaaDoor
