/-
  The law of what a message hangs on.
-/
import Derived.Test.YtdkkipjcmflclaaDoorUH
import Derived.Test.YtdkkipjcmflclaaDoorX3
import Derived.Test.YtdkkipjcmflclaaDoorX2
namespace Go.Proofs.YtdkkipjcmflclaaDoor
open Go.RowKit
set_option maxRecDepth 100000
set_option maxHeartbeats 1000000
open Sh
def Cf.setg (c : Cf) (k : Nat) (x : BitVec 8) : Cf := ⟨c.g.set k x, c.v, c.s, c.e, c.z⟩
def Cf.setv (c : Cf) (k : Nat) (x : BitVec 8) : Cf := ⟨c.g, c.v.set k x, c.s, c.e, c.z⟩
def Hd.setb (h : Hd) (k : Nat) (x : BitVec 8) : Hd := ⟨h.s, h.p, h.a, h.b.set k x, h.c⟩
def Hd.sets (h : Hd) (x : BitVec 64) : Hd := ⟨x, h.p, h.a, h.b, h.c⟩
theorem Cf.setg_ok {c : Cf} (h : c.Ok) (k : Nat) (x : BitVec 8) : (c.setg k x).Ok := ⟨by rw [Cf.setg, List.length_set]; exact h.g, h.v⟩
theorem Cf.setv_ok {c : Cf} (h : c.Ok) (k : Nat) (x : BitVec 8) : (c.setv k x).Ok := ⟨h.g, by rw [Cf.setv, List.length_set]; exact h.v⟩
theorem Hd.setb_ok {h : Hd} (k : h.Ok) (i : Nat) (x : BitVec 8) : (h.setb i x).Ok := ⟨k.a, by rw [Hd.setb, List.length_set]; exact k.b, k.c⟩
theorem Hd.sets_ok {h : Hd} (k : h.Ok) (x : BitVec 64) : (h.sets x).Ok := ⟨k.a, k.b, k.c⟩
theorem map_set8 (l : List (BitVec 8)) (k : Nat) (x : BitVec 8) : (l.map U8).set k (U8 x) = (l.set k x).map U8 := by rw [List.map_set]
theorem Cf.setg_cs {c : Cf} (h : c.Ok) {k : Nat} (hk : k < 32) (x : BitVec 8) : c.cs.set (0 + k) (U8 x) = (c.setg k x).cs := by
  rw [Nat.zero_add, Cf.cs, List.set_append_left _ _ (by rw [List.length_map, h.g]; exact hk), map_set8]
  rfl
theorem Cf.setv_cs {c : Cf} (h : c.Ok) {k : Nat} (hk : k < 4) (x : BitVec 8) : c.cs.set (32 + k) (U8 x) = (c.setv k x).cs := by
  rw [Cf.cs, List.set_append_right _ _ (by rw [List.length_map, h.g]; omega), List.length_map, h.g, Nat.add_sub_cancel_left, List.set_append_left _ _ (by rw [List.length_map, h.v]; exact hk), map_set8]
  rfl
theorem Hd.setb_cs {h : Hd} (k : h.Ok) {i : Nat} (hi : i < 32) (x : BitVec 8) : h.cs.set (34 + i) (U8 x) = (h.setb i x).cs := by
  show (U64 h.s :: U64 h.p :: (h.a.map U8 ++ (h.b.map U8 ++ h.c.map U8))).set (34 + i) (U8 x) = U64 h.s :: U64 h.p :: (h.a.map U8 ++ ((h.b.set i x).map U8 ++ h.c.map U8))
  rw [show 34 + i = (32 + i) + 1 + 1 from by omega, List.set_cons_succ, List.set_cons_succ, List.set_append_right _ _ (by rw [List.length_map, k.a]; omega), List.length_map, k.a, Nat.add_sub_cancel_left, List.set_append_left _ _ (by rw [List.length_map, k.b]; exact hi), map_set8]
theorem Hd.sets_cs (h : Hd) (x : BitVec 64) : h.cs.set 0 (U64 x) = (h.sets x).cs := rfl
def Cf.up (c : Cf) (z : Int) : Cf := ⟨c.g, c.v, c.s + 1#64, c.e + 1#64, z⟩
theorem Cf.up_ok {c : Cf} (h : c.Ok) (z : Int) : (c.up z).Ok := ⟨h.g, h.v⟩
theorem tail_set (p : List Value) (hp : p.length = 36) (a b z a' : Value) : (p ++ [a, b, z]).set 36 a' = p ++ [a', b, z] ∧ (p ++ [a, b, z]).set 37 a' = p ++ [a, a', z] ∧ (p ++ [a, b, z]).set 38 a' = p ++ [a, b, a'] := by
  refine ⟨?_, ?_, ?_⟩ <;> rw [List.set_append_right _ _ (by omega), hp] <;> rfl
theorem Cf.cs2 (c : Cf) : c.cs = (c.g.map U8 ++ c.v.map U8) ++ [U64 c.s, U64 c.e, I c.z] := by rw [Cf.cs, List.append_assoc]
theorem Cf.up_cs {c : Cf} (h : c.Ok) (z : Int) : ((c.cs.set 36 (U64 (c.s + 1#64))).set 37 (U64 (c.e + 1#64))).set 38 (I z) = (c.up z).cs := by
  have hp : (c.g.map U8 ++ c.v.map U8).length = 36 := by rw [List.length_append, List.length_map, List.length_map, h.g, h.v]
  rw [Cf.cs2, Cf.cs2 (c.up z), (tail_set _ hp _ _ _ _).1, (tail_set _ hp _ _ _ _).2.1, (tail_set _ hp _ _ _ _).2.2]
  rfl
theorem Cf.at_n {c : Cf} (h : c.Ok) : c.cs[36]? = some (U64 c.s) ∧ c.cs[37]? = some (U64 c.e) ∧ c.cs[38]? = some (I c.z) := by
  have hp : (c.g.map U8 ++ c.v.map U8).length = 36 := by rw [List.length_append, List.length_map, List.length_map, h.g, h.v]
  rw [Cf.cs2]
  refine ⟨?_, ?_, ?_⟩ <;> rw [List.getElem?_append_right (by omega), hp] <;> rfl
theorem Cf.one (c : Cf) : c.cs.all (·.oneCell') = true := by rw [Cf.cs, List.all_append, List.all_append, one_u8, one_u8]; rfl
theorem Hd.one (h : Hd) : h.cs.all (·.oneCell') = true := by
  show (U64 h.s :: U64 h.p :: (h.a.map U8 ++ (h.b.map U8 ++ h.c.map U8))).all (·.oneCell') = true
  rw [List.all_cons, List.all_cons, List.all_append, List.all_append, one_u8, one_u8, one_u8]; rfl
theorem add_iw (t : TypeId) (a b : Int) (w : World) : (binOp .add t (I a) (I b)).run Tryd.prog w = .ok (I (IntKind.wrap .i64 (a + b))) w := by
  show (Op.intArith .add .i64 a b).run Tryd.prog w = _
  simp only [Op.intArith, Sem.run_pure]
theorem plcN (k : Int) (n : Nat) (h : 0 < n) : ∃ i : Nat, i < n ∧ plc k n = (i : Int) := by
  have h1 := plc_ge (k := k) (n := n) (by omega)
  have h2 := plc_lt (k := k) (n := n) (by omega)
  exact ⟨(plc k n).toNat, by omega, by omega⟩
theorem zv27 (w : World) : (zeroValue 27).run Tryd.prog w = .ok (.agg Cf0.cs.toArray) w := zvCf w
theorem zv29 (w : World) : (zeroValue 29).run Tryd.prog w = .ok (.agg (Hds 0#64).cs.toArray) w := zvHd w
theorem hangs_law (hD : DomainP) (c : Cf) (hc : c.Ok) (h : Hd) (hk : h.Ok) (wh at_ : Int) (w : World) (hw : Gt w) : Calls Tryd.prog 4 [.agg c.cs.toArray, .agg h.cs.toArray, I wh, I at_].toArray w (fun e w' => e = .returned (.bool true) ∧ Grow w w') := by
  have hGF : BOk Gt (pl w) := gt_low.plain hw
  refine calls_of_X (G := Gt) Tryd.func4 rfl rfl (Hp (pl w) []) (hp_refl (pl w) trivial rides_true) (good_hp hGF) ?_
  refine xs_plain (E := EE [14, 15, 2000014, 2000015, 6]) ?_
  refine lx_boxr 4 hGF rfl rfl rfl ?_
  intro b4
  refine lx_boxr 5 hGF rfl rfl rfl ?_
  intro b5
  refine lx_assign rfl rfl rfl ?_
  refine lx_nil ?_
  refine x_seq ?_
  refine xs_plain (E := EE [14, 15, 2000014, 2000015, 6]) ?_
  refine lx_callC rfl rfl ent5 (fun w1 _ hG => known22 hD w1 hG) rfl rfl ?_
  refine lx_un rfl (fun _ => un_not _) rfl rfl ?_
  refine lx_nil ?_
  refine x_false rfl ?_
  refine x_skip ?_
  refine xs_plain (E := EE [14, 15, 2000014, 2000015, 6]) ?_
  refine lx_loada 4 rfl rfl Tryd.isAgg27 Tryd.sizeOf27 (Cf.len hc) rfl rfl ?_
  refine lx_loada 5 rfl rfl Tryd.isAgg29 Tryd.sizeOf29 (Hd.len hk) rfl rfl ?_
  refine lx_callG rfl rfl ent14 rfl rfl (fun w' hw' => (hD.ms c h hc hk w' (hGF.g _ _ _ hw')).mono fun e1 w2 h => ?_)
  obtain ⟨b17, cs17, cap17, rfl, hg, hn17, ho17, hl17, hc17, ht17⟩ := h
  refine ⟨_, _, rfl, good_hp hGF, hw'.news rides_true hg [(17, b17, cs17, 5)] (rowN hn17 ho17) inj_one, hp_fresh rides_true rfl, ?_⟩
  clear hw' hg hn17 ho17
  refine lx_assign rfl rfl rfl ?_
  refine lx_nil ?_
  refine x_join (ι := Nat × Nat) (fun x => [(2, I wh), (3, I at_), (4, .pointer (some ⟨b4, 0, none⟩)), (5, .pointer (some ⟨b5, 0, none⟩)), (9, .slice (some ⟨b17, 0, none⟩) 32 cap17), (10, .pointer (some ⟨x.1, 0, none⟩)), (11, .pointer (some ⟨x.2, 0, none⟩))]) (fun x => [(11, x.2, h.cs, 29), (10, x.1, c.cs, 27), (17, b17, cs17, 5), (5, b5, h.cs, 29), (4, b4, c.cs, 27)]) hGF ?_ ?_
  · skip
    refine x_treeK (EE []) (fun X => X = Hp (pl w) [(5, b5, h.cs, 29), (4, b4, c.cs, 27)]) (fun o => mkA o || mkB [10, 11] o) (rkB [18, 19]) mixed (by kernel_rfl) (by kernel_rfl) ?_
    refine trk_q (m := 5) 0 (by kernel_rfl) ?_
    refine lxk_q (X := Hp (pl w) [(5, b5, h.cs, 29), (4, b4, c.cs, 27)]) rfl (hp_sub rides_true ⟨rfl, rfl, trivial⟩) (fun _ => rfl) ?_
    refine lx_loada 4 rfl rfl Tryd.isAgg27 Tryd.sizeOf27 (Cf.len hc) rfl rfl ?_
    refine lx_nil ?_
    refine lxk_nil ?_
    refine trk_q (m := 4) 1 (by kernel_rfl) ?_
    refine lxk_q (X := Hp (pl w) [(5, b5, h.cs, 29), (4, b4, c.cs, 27)]) rfl (hp_sub rides_true ⟨rfl, rfl, trivial⟩) (fun _ => rfl) ?_
    refine lx_loada 5 rfl rfl Tryd.isAgg29 Tryd.sizeOf29 (Hd.len hk) rfl rfl ?_
    refine lx_nil ?_
    refine lxk_nil ?_
    refine trk_any (m := 3) [2, 3] (by kernel_rfl) (by kernel_rfl) (by decide) ?_
    intro i hi
    simp only [List.mem_cons, List.not_mem_nil, or_false] at hi
    rcases hi with rfl | rfl
    · skip
      refine lxk_e rfl ?_
      refine lx_allocr 10 hGF zv27 rfl rfl ?_
      intro b10
      refine lx_nil ?_
      refine ⟨fun _ X hX _ => by subst hX; exact hp_sub rides_true ⟨rfl, rfl, trivial⟩, ?_⟩
      refine lxk_nil ?_
      refine trk_any (m := 2) [3] (by kernel_rfl) (by kernel_rfl) (by decide) ?_
      intro i hi
      simp only [List.mem_cons, List.not_mem_nil, or_false] at hi
      subst hi
      refine lxk_e rfl ?_
      refine lx_allocr 11 hGF zv29 rfl rfl ?_
      intro b11
      refine lx_nil ?_
      refine ⟨fun _ X hX _ => by subst hX; exact hp_sub rides_true ⟨rfl, rfl, trivial⟩, ?_⟩
      refine lxk_nil ?_
      refine trk_any (m := 1) [4] (by kernel_rfl) (by kernel_rfl) (by decide) ?_
      intro i hi
      simp only [List.mem_cons, List.not_mem_nil, or_false] at hi
      subst hi
      refine lxk_e rfl ?_
      refine lx_storea 10 hGF rfl rfl rfl Tryd.sizeOf27 (Cf.len hc) (Cf.len Cf0_ok) (Cf.one c) rfl ?_
      refine lx_nil ?_
      refine ⟨fun _ X hX _ => by subst hX; exact hp_sub rides_true ⟨rfl, rfl, trivial⟩, ?_⟩
      refine lxk_nil ?_
      refine trk_any (m := 0) [5] (by kernel_rfl) (by kernel_rfl) (by decide) ?_
      intro i hi
      simp only [List.mem_cons, List.not_mem_nil, or_false] at hi
      subst hi
      refine lxk_e rfl ?_
      refine lx_storea 11 hGF rfl rfl rfl Tryd.sizeOf29 (Hd.len hk) (Hd.len (Hds_ok _)) (Hd.one h) rfl ?_
      refine lx_nil ?_
      refine ⟨fun _ X hX _ => by subst hX; exact hp_sub rides_true ⟨rfl, rfl, trivial⟩, ?_⟩
      refine lxk_nil ?_
      refine trk_nil (by kernel_rfl) ?_
      refine kseq_n ?_
      exact ⟨rfl, (b10, b11), _, rfl, ⟨rfl, rfl, rfl, rfl, rfl, rfl, rfl, trivial⟩, ⟨rfl, rfl, rfl, rfl, rfl, trivial⟩⟩
    · skip
      refine lxk_e rfl ?_
      refine lx_allocr 11 hGF zv29 rfl rfl ?_
      intro b11
      refine lx_nil ?_
      refine ⟨fun _ X hX _ => by subst hX; exact hp_sub rides_true ⟨rfl, rfl, trivial⟩, ?_⟩
      refine lxk_nil ?_
      refine trk_any (m := 2) [2] (by kernel_rfl) (by kernel_rfl) (by decide) ?_
      intro i hi
      simp only [List.mem_cons, List.not_mem_nil, or_false] at hi
      subst hi
      refine lxk_e rfl ?_
      refine lx_allocr 10 hGF zv27 rfl rfl ?_
      intro b10
      refine lx_nil ?_
      refine ⟨fun _ X hX _ => by subst hX; exact hp_sub rides_true ⟨rfl, rfl, trivial⟩, ?_⟩
      refine lxk_nil ?_
      refine trk_any (m := 1) [4] (by kernel_rfl) (by kernel_rfl) (by decide) ?_
      intro i hi
      simp only [List.mem_cons, List.not_mem_nil, or_false] at hi
      subst hi
      refine lxk_e rfl ?_
      refine lx_storea 10 hGF rfl rfl rfl Tryd.sizeOf27 (Cf.len hc) (Cf.len Cf0_ok) (Cf.one c) rfl ?_
      refine lx_nil ?_
      refine ⟨fun _ X hX _ => by subst hX; exact hp_sub rides_true ⟨rfl, rfl, trivial⟩, ?_⟩
      refine lxk_nil ?_
      refine trk_any (m := 0) [5] (by kernel_rfl) (by kernel_rfl) (by decide) ?_
      intro i hi
      simp only [List.mem_cons, List.not_mem_nil, or_false] at hi
      subst hi
      refine lxk_e rfl ?_
      refine lx_storea 11 hGF rfl rfl rfl Tryd.sizeOf29 (Hd.len hk) (Hd.len (Hds_ok _)) (Hd.one h) rfl ?_
      refine lx_nil ?_
      refine ⟨fun _ X hX _ => by subst hX; exact hp_sub rides_true ⟨rfl, rfl, trivial⟩, ?_⟩
      refine lxk_nil ?_
      refine trk_nil (by kernel_rfl) ?_
      refine kseq_n ?_
      exact ⟨rfl, (b10, b11), _, rfl, ⟨rfl, rfl, rfl, rfl, rfl, rfl, rfl, trivial⟩, ⟨rfl, rfl, rfl, rfl, rfl, trivial⟩⟩
  · rintro ⟨b10, b11⟩
    dsimp only
    refine x_join (ι := { x : Cf × Hd // x.1.Ok ∧ x.2.Ok }) (fun x => [(4, .pointer (some ⟨b4, 0, none⟩)), (5, .pointer (some ⟨b5, 0, none⟩)), (9, .slice (some ⟨b17, 0, none⟩) 32 cap17), (10, .pointer (some ⟨b10, 0, none⟩)), (11, .pointer (some ⟨b11, 0, none⟩))]) (fun x => [(11, b11, x.1.2.cs, 29), (10, b10, x.1.1.cs, 27), (17, b17, cs17, 5), (5, b5, h.cs, 29), (4, b4, c.cs, 27)]) hGF ?_ ?_
    · skip
      refine xs_plain (E := EE [14, 15, 2000014, 2000015, 6]) ?_
      refine lx_move rfl rfl rfl ?_
      refine lx_callC rfl rfl ent16 (fun w' hw' hG => place_p wh 5 (by decide) (by decide) w' hG) rfl rfl ?_
      refine lx_nil ?_
      refine x_block ?_
      refine xs_plain (E := EE [14, 15, 2000014, 2000015, 6]) ?_
      rcases Decidable.em (plc wh 5 = 0) with q0 | q0
      · skip
        refine lx_binB true rfl rfl (fun _ => rfl) (fun _ => bin_eql_i _ _ _) (decide_eq_true q0) rfl rfl ?_
        refine lx_assign rfl rfl rfl ?_
        refine lx_nil ?_
        refine x_true rfl ?_
        refine xs_drawK (E := EE []) (fun X => X = Hp (pl w) [(4, b4, c.cs, 27)]) (mkB [37, 38, 39]) (rkB [29, 32, 35]) [0, 1, 2, 3, 4, 5, 6, 7, 8, 9, 10, 11, 12, 13, 14] mixed rfl (by kernel_rfl) (by kernel_rfl) (by kernel_rfl) ?_
        refine lxk_s rfl rfl ?_
        refine lx_fak 36 rfl Tryd.underlying27 rfl Tryd.sizeOf25 (by decide) rfl rfl rfl ?_
        refine lx_nil ?_
        refine lxk_q (X := Hp (pl w) [(4, b4, c.cs, 27)]) rfl (hp_sub rides_true ⟨rfl, trivial⟩) (fun _ => rfl) ?_
        refine lx_load (v := U64 c.s) rfl Tryd.isAgg25 (fun w' hw' => (hp_row (n := 4) rfl w' hw') 36 (U64 c.s) (Cf.at_n hc).1) rfl rfl ?_
        refine lx_nil ?_
        refine lxk_s rfl rfl ?_
        refine lx_bin (v := U64 (c.s + 1#64)) rfl rfl (fun _ => rfl) (fun _ => bin_add_u64 _ _ 1#64) rfl rfl ?_
        refine lx_nil ?_
        refine lxk_s rfl rfl ?_
        refine lx_fak 37 rfl Tryd.underlying27 rfl Tryd.sizeOf25 (by decide) rfl rfl rfl ?_
        refine lx_nil ?_
        refine lxk_q (X := Hp (pl w) [(4, b4, c.cs, 27)]) rfl (hp_sub rides_true ⟨rfl, trivial⟩) (fun _ => rfl) ?_
        refine lx_load (v := U64 c.e) rfl Tryd.isAgg25 (fun w' hw' => (hp_row (n := 4) rfl w' hw') 37 (U64 c.e) (Cf.at_n hc).2.1) rfl rfl ?_
        refine lx_nil ?_
        refine lxk_s rfl rfl ?_
        refine lx_bin (v := U64 (c.e + 1#64)) rfl rfl (fun _ => rfl) (fun _ => bin_add_u64 _ _ 1#64) rfl rfl ?_
        refine lx_nil ?_
        refine lxk_s rfl rfl ?_
        refine lx_fak 38 rfl Tryd.underlying27 rfl Tryd.sizeOf3 (by decide) rfl rfl rfl ?_
        refine lx_nil ?_
        refine lxk_q (X := Hp (pl w) [(4, b4, c.cs, 27)]) rfl (hp_sub rides_true ⟨rfl, trivial⟩) (fun _ => rfl) ?_
        refine lx_load (v := I c.z) rfl Tryd.isAgg3 (fun w' hw' => (hp_row (n := 4) rfl w' hw') 38 (I c.z) (Cf.at_n hc).2.2) rfl rfl ?_
        refine lx_nil ?_
        refine lxk_s rfl rfl ?_
        refine lx_bin (v := I (IntKind.wrap .i64 (c.z + 1))) rfl rfl (fun _ => rfl) (fun _ => add_iw _ _ _ _) rfl rfl ?_
        refine lx_nil ?_
        refine lxk_s rfl rfl ?_
        refine lx_fak 36 rfl Tryd.underlying27 rfl Tryd.sizeOf25 (by decide) rfl rfl rfl ?_
        refine lx_nil ?_
        refine lxk_e rfl ?_
        refine lx_store 10 hGF rfl rfl rfl Tryd.sizeOf25 rfl (by (try simp only [List.length_set]); rw [Cf.len hc]; omega) rfl ?_
        refine lx_nil ?_
        refine ⟨fun _ X hX _ => by subst hX; exact hp_sub rides_true ⟨rfl, trivial⟩, ?_⟩
        refine lxk_s rfl rfl ?_
        refine lx_fak 37 rfl Tryd.underlying27 rfl Tryd.sizeOf25 (by decide) rfl rfl rfl ?_
        refine lx_nil ?_
        refine lxk_e rfl ?_
        refine lx_store 10 hGF rfl rfl rfl Tryd.sizeOf25 rfl (by (try simp only [List.length_set]); rw [Cf.len hc]; omega) rfl ?_
        refine lx_nil ?_
        refine ⟨fun _ X hX _ => by subst hX; exact hp_sub rides_true ⟨rfl, trivial⟩, ?_⟩
        refine lxk_s rfl rfl ?_
        refine lx_fak 38 rfl Tryd.underlying27 rfl Tryd.sizeOf3 (by decide) rfl rfl rfl ?_
        refine lx_nil ?_
        refine lxk_e rfl ?_
        refine lx_store 10 hGF rfl rfl rfl Tryd.sizeOf3 rfl (by (try simp only [List.length_set]); rw [Cf.len hc]; omega) rfl ?_
        rw [Cf.up_cs hc]
        refine lx_nil ?_
        refine ⟨fun _ X hX _ => by subst hX; exact hp_sub rides_true ⟨rfl, trivial⟩, ?_⟩
        refine lxk_nil ?_
        refine xs_plain (E := EE [14, 15, 2000014, 2000015, 6]) ?_
        refine lx_loada 10 rfl rfl Tryd.isAgg27 Tryd.sizeOf27 (Cf.len (Cf.up_ok hc _)) rfl rfl ?_
        refine lx_loada 5 rfl rfl Tryd.isAgg29 Tryd.sizeOf29 (Hd.len hk) rfl rfl ?_
        refine lx_callG rfl rfl ent14 rfl rfl (fun w' hw' => (hD.ms (c.up (IntKind.wrap .i64 (c.z + 1))) h (Cf.up_ok hc (IntKind.wrap .i64 (c.z + 1))) hk w' (hGF.g _ _ _ hw')).mono fun e1 w2 h => ?_)
        obtain ⟨b42, cs42, cap42, rfl, hg, hn42, ho42, hl42, hc42, ht42⟩ := h
        refine ⟨_, _, rfl, good_hp hGF, hw'.news rides_true hg [(42, b42, cs42, 5)] (rowN hn42 ho42) inj_one, hp_fresh rides_true rfl, ?_⟩
        clear hw' hg hn42 ho42
        refine lx_move rfl rfl rfl ?_
        refine lx_callC rfl rfl ent13 (fun w' hw' hG => byt_p (MSG (c.up (IntKind.wrap .i64 (c.z + 1))) h) (MSG c h) _ 32 _ _ 32 _ (MSG_len _ _) (MSG_len _ _) w' hG (head_bytes (n := 42) rfl (by rw [MSG_len]; exact ht42) w' hw') (head_bytes (n := 17) rfl (by rw [MSG_len]; exact ht17) w' hw')) rfl rfl ?_
        rw [decide_eq_true (msg_same (c := c.up (IntKind.wrap .i64 (c.z + 1))) (d := c) rfl rfl h)]
        refine lx_assign rfl rfl rfl ?_
        refine lx_nil ?_
        refine x_ret ?_
        repeat (first | refine kseq_ret ?_ | refine kblk_ret ?_)
        exact kret_tmp rfl rfl (fun w' hw' => ⟨rfl, hp_below hw'⟩)
      · skip
        refine lx_binB false rfl rfl (fun _ => rfl) (fun _ => bin_eql_i _ _ _) (decide_eq_false q0) rfl rfl ?_
        refine lx_assign rfl rfl rfl ?_
        refine lx_nil ?_
        refine x_false rfl ?_
        refine xs_plain (E := EE [14, 15, 2000014, 2000015, 6]) ?_
        rcases Decidable.em (plc wh 5 = 1) with q1 | q1
        · skip
          refine lx_binB true rfl rfl (fun _ => rfl) (fun _ => bin_eql_i _ _ _) (decide_eq_true q1) rfl rfl ?_
          refine lx_assign rfl rfl rfl ?_
          refine lx_nil ?_
          refine x_true rfl ?_
          refine x_plain (E := EE [14, 15, 2000014, 2000015, 6]) ?_
          refine lx_move rfl rfl rfl ?_
          refine lx_callC rfl rfl ent16 (fun w' hw' hG => place_p at_ 32 (by decide) (by decide) w' hG) rfl rfl ?_
          obtain ⟨k, hkk, hk2⟩ : ∃ i : Nat, i < 32 ∧ plc at_ 32 = (i : Int) := plcN at_ 32 (by decide)
          rw [hk2]
          refine lx_fak 0 rfl Tryd.underlying27 rfl Tryd.sizeOf23 (by decide) rfl rfl rfl ?_
          refine lx_ia1 k rfl rfl Tryd.underlying23 Tryd.sizeOf5 rfl hkk rfl rfl ?_
          refine lx_load (v := U8 (c.g.getD k 0#8)) rfl Tryd.isAgg5 (fun w' hw' => by have := (hp_row (n := 10) rfl w' hw') (0 + k) (U8 (c.g.getD k 0#8)) (Cf.at_g k _ (gm U8 c.g 0#8 k (by rw [hc.g]; exact hkk))); rwa [Nat.zero_add] at this) rfl rfl ?_
          refine lx_bin (v := U8 (c.g.getD k 0#8 ^^^ 1#8)) rfl rfl (fun _ => rfl) (fun _ => bin_xor_u8 _ _ _) rfl rfl ?_
          refine lx_fak 0 rfl Tryd.underlying27 rfl Tryd.sizeOf23 (by decide) rfl rfl rfl ?_
          refine lx_ia1 k rfl rfl Tryd.underlying23 Tryd.sizeOf5 rfl hkk rfl rfl ?_
          refine lx_store 10 hGF rfl rfl rfl Tryd.sizeOf5 rfl (by rw [Cf.len hc]; omega) rfl ?_
          rw [Cf.setg_cs hc hkk]
          refine lx_nil ?_
          repeat (refine kblk_n ?_)
          refine kseq_n ?_
          exact ⟨rfl, ⟨((c.setg k (c.g.getD k 0#8 ^^^ 1#8)), h), (Cf.setg_ok hc _ _), hk⟩, _, rfl, ⟨rfl, rfl, rfl, rfl, rfl, trivial⟩, ⟨rfl, rfl, rfl, rfl, rfl, trivial⟩⟩
        · skip
          refine lx_binB false rfl rfl (fun _ => rfl) (fun _ => bin_eql_i _ _ _) (decide_eq_false q1) rfl rfl ?_
          refine lx_assign rfl rfl rfl ?_
          refine lx_nil ?_
          refine x_false rfl ?_
          refine xs_plain (E := EE [14, 15, 2000014, 2000015, 6]) ?_
          rcases Decidable.em (plc wh 5 = 2) with q2 | q2
          · skip
            refine lx_binB true rfl rfl (fun _ => rfl) (fun _ => bin_eql_i _ _ _) (decide_eq_true q2) rfl rfl ?_
            refine lx_assign rfl rfl rfl ?_
            refine lx_nil ?_
            refine x_true rfl ?_
            refine x_plain (E := EE [14, 15, 2000014, 2000015, 6]) ?_
            refine lx_move rfl rfl rfl ?_
            refine lx_callC rfl rfl ent16 (fun w' hw' hG => place_p at_ 4 (by decide) (by decide) w' hG) rfl rfl ?_
            obtain ⟨k, hkk, hk2⟩ : ∃ i : Nat, i < 4 ∧ plc at_ 4 = (i : Int) := plcN at_ 4 (by decide)
            rw [hk2]
            refine lx_fak 32 rfl Tryd.underlying27 rfl Tryd.sizeOf24 (by decide) rfl rfl rfl ?_
            refine lx_ia1 k rfl rfl Tryd.underlying24 Tryd.sizeOf5 rfl hkk rfl rfl ?_
            refine lx_load (v := U8 (c.v.getD k 0#8)) rfl Tryd.isAgg5 (fun w' hw' => by have := (hp_row (n := 10) rfl w' hw') (32 + k) (U8 (c.v.getD k 0#8)) (Cf.at_v hc k _ (gm U8 c.v 0#8 k (by rw [hc.v]; exact hkk))); rwa [Nat.zero_add] at this) rfl rfl ?_
            refine lx_bin (v := U8 (c.v.getD k 0#8 ^^^ 1#8)) rfl rfl (fun _ => rfl) (fun _ => bin_xor_u8 _ _ _) rfl rfl ?_
            refine lx_fak 32 rfl Tryd.underlying27 rfl Tryd.sizeOf24 (by decide) rfl rfl rfl ?_
            refine lx_ia1 k rfl rfl Tryd.underlying24 Tryd.sizeOf5 rfl hkk rfl rfl ?_
            refine lx_store 10 hGF rfl rfl rfl Tryd.sizeOf5 rfl (by rw [Cf.len hc]; omega) rfl ?_
            rw [Cf.setv_cs hc hkk]
            refine lx_nil ?_
            repeat (refine kblk_n ?_)
            refine kseq_n ?_
            exact ⟨rfl, ⟨((c.setv k (c.v.getD k 0#8 ^^^ 1#8)), h), (Cf.setv_ok hc _ _), hk⟩, _, rfl, ⟨rfl, rfl, rfl, rfl, rfl, trivial⟩, ⟨rfl, rfl, rfl, rfl, rfl, trivial⟩⟩
          · skip
            refine lx_binB false rfl rfl (fun _ => rfl) (fun _ => bin_eql_i _ _ _) (decide_eq_false q2) rfl rfl ?_
            refine lx_assign rfl rfl rfl ?_
            refine lx_nil ?_
            refine x_false rfl ?_
            refine xs_plain (E := EE [14, 15, 2000014, 2000015, 6]) ?_
            rcases Decidable.em (plc wh 5 = 3) with q3 | q3
            · skip
              refine lx_binB true rfl rfl (fun _ => rfl) (fun _ => bin_eql_i _ _ _) (decide_eq_true q3) rfl rfl ?_
              refine lx_assign rfl rfl rfl ?_
              refine lx_nil ?_
              refine x_true rfl ?_
              refine x_plain (E := EE [14, 15, 2000014, 2000015, 6]) ?_
              refine lx_move rfl rfl rfl ?_
              refine lx_callC rfl rfl ent16 (fun w' hw' hG => place_p at_ 32 (by decide) (by decide) w' hG) rfl rfl ?_
              obtain ⟨k, hkk, hk2⟩ : ∃ i : Nat, i < 32 ∧ plc at_ 32 = (i : Int) := plcN at_ 32 (by decide)
              rw [hk2]
              refine lx_fak 34 rfl Tryd.underlying29 rfl Tryd.sizeOf23 (by decide) rfl rfl rfl ?_
              refine lx_ia1 k rfl rfl Tryd.underlying23 Tryd.sizeOf5 rfl hkk rfl rfl ?_
              refine lx_load (v := U8 (h.b.getD k 0#8)) rfl Tryd.isAgg5 (fun w' hw' => by have := (hp_row (n := 11) rfl w' hw') (34 + k) (U8 (h.b.getD k 0#8)) (Hd.at_b hk k _ (gm U8 h.b 0#8 k (by rw [hk.b]; exact hkk))); rwa [Nat.zero_add] at this) rfl rfl ?_
              refine lx_bin (v := U8 (h.b.getD k 0#8 ^^^ 1#8)) rfl rfl (fun _ => rfl) (fun _ => bin_xor_u8 _ _ _) rfl rfl ?_
              refine lx_fak 34 rfl Tryd.underlying29 rfl Tryd.sizeOf23 (by decide) rfl rfl rfl ?_
              refine lx_ia1 k rfl rfl Tryd.underlying23 Tryd.sizeOf5 rfl hkk rfl rfl ?_
              refine lx_store 11 hGF rfl rfl rfl Tryd.sizeOf5 rfl (by rw [Hd.len hk]; omega) rfl ?_
              rw [Hd.setb_cs hk hkk]
              refine lx_nil ?_
              repeat (refine kblk_n ?_)
              refine kseq_n ?_
              exact ⟨rfl, ⟨(c, (h.setb k (h.b.getD k 0#8 ^^^ 1#8))), hc, (Hd.setb_ok hk _ _)⟩, _, rfl, ⟨rfl, rfl, rfl, rfl, rfl, trivial⟩, ⟨rfl, rfl, rfl, rfl, rfl, trivial⟩⟩
            · skip
              refine lx_binB false rfl rfl (fun _ => rfl) (fun _ => bin_eql_i _ _ _) (decide_eq_false q3) rfl rfl ?_
              refine lx_assign rfl rfl rfl ?_
              refine lx_nil ?_
              refine x_false rfl ?_
              refine x_plain (E := EE [14, 15, 2000014, 2000015, 6]) ?_
              refine lx_fak 0 rfl Tryd.underlying29 rfl Tryd.sizeOf25 (by decide) rfl rfl rfl ?_
              refine lx_load (v := U64 h.s) rfl Tryd.isAgg25 (fun w' hw' => (hp_row (n := 11) rfl w' hw') 0 (U64 h.s) rfl) rfl rfl ?_
              refine lx_bin (v := U64 (h.s + 1#64)) rfl rfl (fun _ => rfl) (fun _ => bin_add_u64 _ _ 1#64) rfl rfl ?_
              refine lx_fak 0 rfl Tryd.underlying29 rfl Tryd.sizeOf25 (by decide) rfl rfl rfl ?_
              refine lx_store 11 hGF rfl rfl rfl Tryd.sizeOf25 rfl (by rw [Hd.len hk]; omega) rfl ?_
              rw [Hd.sets_cs]
              refine lx_nil ?_
              repeat (refine kblk_n ?_)
              refine kseq_n ?_
              exact ⟨rfl, ⟨(c, (h.sets (h.s + 1#64))), hc, (Hd.sets_ok hk _)⟩, _, rfl, ⟨rfl, rfl, rfl, rfl, rfl, trivial⟩, ⟨rfl, rfl, rfl, rfl, rfl, trivial⟩⟩
    · rintro ⟨⟨d, e⟩, hd, he⟩
      dsimp only at hd he ⊢
      refine xs_plain (E := EE [14, 15, 2000014, 2000015, 6]) ?_
      refine lx_callE rfl rfl ent6 rfl rfl (fun w1 hC => (hnew_calls w1 (hGF.g _ _ _ hC)).mono fun e1 w2 h => ?_)
      obtain ⟨bm, rfl, hg, hbm, hob⟩ := h
      refine ⟨_, _, rfl, good_hp hGF, hC.news rides_true hg [(75, bm, MK.map U32, 53)] (rowN hbm hob) inj_one, ?_⟩
      clear hC hg hbm hob
      refine lx_allocr 12 hGF zvH rfl rfl ?_
      intro b12
      refine lx_storea 12 hGF rfl rfl rfl Tryd.sizeOf33 rfl rfl (by rfl) rfl ?_
      refine lx_nil ?_
      refine xs_tree (EE [14, 15, 2000014, 2000015, 6]) mixed (by kernel_rfl) (by kernel_rfl) ?_
      refine tr_pre (m := 7) [0, 1, 3, 5, 6, 7, 9, 10, 11] (by kernel_rfl) ?_
      refine lx_loada 10 rfl rfl Tryd.isAgg27 Tryd.sizeOf27 (Cf.len hd) rfl rfl ?_
      refine lx_loada 11 rfl rfl Tryd.isAgg29 Tryd.sizeOf29 (Hd.len he) rfl rfl ?_
      refine lx_move rfl rfl rfl ?_
      refine lx_loada 12 rfl rfl Tryd.isAgg33 Tryd.sizeOf33 rfl rfl rfl ?_
      refine lx_loada 10 rfl rfl Tryd.isAgg27 Tryd.sizeOf27 (Cf.len hd) rfl rfl ?_
      refine lx_loada 11 rfl rfl Tryd.isAgg29 Tryd.sizeOf29 (Hd.len he) rfl rfl ?_
      refine lx_loada 12 rfl rfl Tryd.isAgg33 Tryd.sizeOf33 rfl rfl rfl ?_
      refine lx_loada 4 rfl rfl Tryd.isAgg27 Tryd.sizeOf27 (Cf.len hc) rfl rfl ?_
      refine lx_loada 5 rfl rfl Tryd.isAgg29 Tryd.sizeOf29 (Hd.len hk) rfl rfl ?_
      refine lx_nil ?_
      refine tr_pre (m := 6) [2] (by kernel_rfl) ?_
      refine lx_callG rfl rfl ent14 rfl rfl (fun w' hw' => (hD.ms d e hd he w' (hGF.g _ _ _ hw')).mono fun e1 w2 h => ?_)
      obtain ⟨b78, cs78, cap78, rfl, hg, hn78, ho78, hl78, hc78, ht78⟩ := h
      refine ⟨_, _, rfl, good_hp hGF, hw'.news rides_true hg [(78, b78, cs78, 5)] (rowN hn78 ho78) inj_one, hp_fresh rides_true rfl, ?_⟩
      clear hw' hg hn78 ho78
      refine lx_nil ?_
      refine tr_pre (m := 5) [4] (by kernel_rfl) ?_
      refine lx_callC rfl rfl ent13 (fun w' hw' hG => byt_p (MSG d e) (MSG c h) _ 32 _ _ 32 _ (MSG_len _ _) (MSG_len _ _) w' hG (head_bytes (n := 78) rfl (by rw [MSG_len]; exact ht78) w' hw') (head_bytes (n := 17) rfl (by rw [MSG_len]; exact ht17) w' hw')) rfl rfl ?_
      refine lx_nil ?_
      refine tr_pre (m := 4) [8] (by kernel_rfl) ?_
      refine lx_callG rfl rfl ent15 rfl rfl (fun w' hw' => (hmsg_calls bm d hd e he w' (hGF.g _ _ _ hw') (hw'.own 75 _ _ _ rfl).1).mono fun e1 w2 h => ?_)
      obtain ⟨b84, cs84, cap84, rfl, hg, hn84, ho84, hl84, hc84, ht84⟩ := h
      refine ⟨_, _, rfl, good_hp hGF, hw'.news rides_true hg [(84, b84, cs84, 5)] (rowN hn84 ho84) inj_one, hp_fresh rides_true rfl, ?_⟩
      clear hw' hg hn84 ho84
      refine lx_nil ?_
      refine tr_pre (m := 3) [12] (by kernel_rfl) ?_
      refine lx_callG rfl rfl ent15 rfl rfl (fun w' hw' => (hmsg_calls bm c hc h hk w' (hGF.g _ _ _ hw') (hw'.own 75 _ _ _ rfl).1).mono fun e1 w2 h => ?_)
      obtain ⟨b88, cs88, cap88, rfl, hg, hn88, ho88, hl88, hc88, ht88⟩ := h
      refine ⟨_, _, rfl, good_hp hGF, hw'.news rides_true hg [(88, b88, cs88, 5)] (rowN hn88 ho88) inj_one, hp_fresh rides_true rfl, ?_⟩
      clear hw' hg hn88 ho88
      refine lx_nil ?_
      refine tr_pre (m := 0) [13, 14, 15] (by kernel_rfl) ?_
      refine lx_callC rfl rfl ent13 (fun w' hw' hG => byt_p (MSG d e) (MSG c h) _ 32 _ _ 32 _ (MSG_len _ _) (MSG_len _ _) w' hG (head_bytes (n := 84) rfl (by rw [MSG_len]; exact ht84) w' hw') (head_bytes (n := 88) rfl (by rw [MSG_len]; exact ht88) w' hw')) rfl rfl ?_
      refine lx_bin (v := .bool true) rfl rfl (fun _ => rfl) (fun w => (bin_eql_bool _ Tryd.underlying4 _ _ w).trans (by rw [beq_self_eq_true])) rfl rfl ?_
      refine lx_assign rfl rfl rfl ?_
      refine lx_nil ?_
      refine tr_nil (by kernel_rfl) ?_
      refine kseq_n ?_
      refine x_ret ?_
      repeat (first | refine kseq_ret ?_ | refine kblk_ret ?_)
      exact kret_tmp rfl rfl (fun w' hw' => ⟨rfl, hp_below hw'⟩)
end Go.Proofs.YtdkkipjcmflclaaDoor
