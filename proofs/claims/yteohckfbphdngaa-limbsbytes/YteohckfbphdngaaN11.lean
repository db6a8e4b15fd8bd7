/-
  The walk of the law LimbsBytes.
-/
import Derived.Test.YteohckfbphdngaaN10
namespace Go.Proofs.Yteohckfbphdngaa
open Go.RowKit
set_option maxRecDepth 100000
set_option maxHeartbeats 1000000
section
variable {P : Program} {G : Cls} {ro : Option Nat} {ops : Array Oper} {N : Nat} {ds : List Deferred} {fs : List Nat} {Z : Fr → Cls → Prop} {F : Fr} {C : Cls} {rest : List Oper}
variable {d : Nat} {ty : TypeId} {pos : String} {af : Array Edge} {gd : Option (Nat × Bool)} {B : Bs} {L : Hl}
/-- x[l:] of an array, l up to its length. -/
theorem lx_slfrom {t e : TypeId} {n : Nat} {x z : Operand} {b l : Nat} (hx : evF F x = some (.pointer (some ⟨b, 0, none⟩))) (hu : P.underlying t = some (.array n e)) (hs : ∀ w, (sizeOf e).run P w = .ok 1 w)
    (hz : evF F z = some (I (l : Int))) (hb : l ≤ n) (hw : wantF ops F ⟨some d, .slice t x (some z) none none, ty, pos, af, gd⟩ = some true) (hd : Nat.blt d N = true)
    (h : Lx P G ro ops N ds (EE fs) Z rest ((d, .slice (some ⟨b, if n = l then 0 else l, none⟩) (n - l) (n - l)) :: F) C) : Lx P G ro ops N ds (EE fs) Z (⟨some d, .slice t x (some z) none none, ty, pos, af, gd⟩ :: rest) F C :=
  lx_val (v := .slice (some ⟨b, if n = l then 0 else l, none⟩) (n - l) (n - l)) rfl hw hd (fun _ h => by cases h) (fun a w ha _ => by
    have hz := ha.ev hz
    simp only [execOp, ha.ev hx]
    by_cases h2 : n = l
    · simp [Instr.sliceAt, run_underlying hu, Instr.sureAddr, Instr.sliceBounds, Instr.sliceBound, asIntOf, hz, hs, h2]
    · simp [Instr.sliceAt, run_underlying hu, Instr.sureAddr, Instr.sliceBounds, Instr.sliceBound, asIntOf, hz, hs, hb, h2, Addr.add_mid]) h
theorem bin_neq_bool (t : TypeId) (hu : P.underlying t = some .bool) (a : Bool) (w : World) : (binOp .neq t (.bool a) (.bool a)).run P w = .ok (.bool false) w := by
  have h : ∀ d : Nat, (Op.equalIn (d + 1) t (.bool a) (.bool a)).run P w = .ok true w := fun d => by simp [Op.equalIn, run_underlying hu]
  simp only [binOp]
  simp [Op.equal, Op.maxDepth, h 9999]
end
theorem from_big (a : Option Addr) (cap : Nat) (bs : List (BitVec 8)) (h : 48 < bs.length) (w : World) (hw : Gt w) (hby : BytesAt w a bs) :
    Calls Try.prog 20 [.slice a bs.length cap].toArray w (fun e w' => e = .returned (.tuple #[.agg ((List.replicate 6 0#64).map U64).toArray, .bool false]) ∧ Grow w w') :=
  (from_calls a cap bs w hw hby).mono fun e w' ⟨he, hg⟩ => ⟨by rw [he, if_pos h], hg⟩
theorem rfrom_big (a : Option Addr) (cap : Nat) (bs : List (BitVec 8)) (h : 48 < bs.length) (w : World) (hw : Gt w) (hby : BytesAt w a bs) :
    Calls Try.prog 21 [.slice a bs.length cap].toArray w (fun e w' => e = .returned (.tuple #[.agg ((List.replicate 6 0#64).map U64).toArray, .bool false]) ∧ Grow w w') :=
  (rfrom_calls a cap bs w hw hby).mono fun e w' ⟨he, hg⟩ => ⟨by rw [he, if_pos h], hg⟩
theorem rfrom_small (a : Option Addr) (cap : Nat) (bs : List (BitVec 8)) (h : ¬ 48 < bs.length) (w : World) (hw : Gt w) (hby : BytesAt w a bs) :
    Calls Try.prog 21 [.slice a bs.length cap].toArray w (fun e w' => e = .returned (.tuple #[.agg ((FRs bs bs.length).map U64).toArray, .bool true]) ∧ Grow w w') :=
  (rfrom_calls a cap bs w hw hby).mono fun e w' ⟨he, hg⟩ => ⟨by rw [he, if_neg h], hg⟩
theorem from_back (a : List (BitVec 64)) (ha : a.length = 6) (ad : Option Addr) (len cap : Nat) (hl : 48 = len) (w : World) (hw : Gt w) (hby : BytesAt w ad (BYs a 48)) :
    Calls Try.prog 20 [.slice ad len cap].toArray w (fun e w' => e = .returned (.tuple #[.agg (a.map U64).toArray, .bool true]) ∧ Grow w w') := by
  refine (from_small ad len cap (BYs a 48) ((BYs_len a 48).trans hl) (by rw [BYs_len]; exact Nat.le_refl _) w hw hby).mono fun e w' ⟨he, hg⟩ => ⟨?_, hg⟩
  rw [he, BYs_len, from_bytes a ha 48 rfl]
theorem eqg46 (op : BinOp) (x y : Operand) (xs ys : Array Value) (w : World) : (eqGuard op 46 x y (.agg xs) (.agg ys)).run Try.prog w = .ok () w := run_eqGuard_agg w op 46 x y xs ys (by kernel_rfl)

theorem bytes_calls (xs : List (BitVec 8)) (a1 : Option Addr) (len1 cap1 : Nat) (a2 : Option Addr) (len2 cap2 : Nat) (hl1 : xs.length = len1) (hl2 : xs.length = len2) (w : World) (hw : Gt w) (h1 : BytesAt w a1 xs) (h2 : BytesAt w a2 xs) :
    Calls Try.prog 24 [.slice a1 len1 cap1, .slice a2 len2 cap2].toArray w (fun e w' => e = .returned (.bool true) ∧ Grow w w') := by
  have hGF : BOk Gt (pl w) := gt_low.plain hw
  refine calls_of_X (G := Gt) Try.func24 rfl rfl (Hp (pl w) []) (hp_refl (pl w) trivial rides_true) (good_hp hGF) ?_
  refine xs_plain (E := EE []) ?_
  refine lx_assign rfl rfl rfl ?_
  refine lx_nil ?_
  refine xs_plain (E := EE []) ?_
  refine lx_move rfl rfl rfl ?_
  refine lx_convr rfl rfl (fun w' hw' => conv_str Try.underlying41 Try.underlying5 Try.underlying9 (h1.grow (hp_below hw')) _ _ hl1) rfl rfl ?_
  refine lx_move rfl rfl rfl ?_
  refine lx_convr rfl rfl (fun w' hw' => conv_str Try.underlying41 Try.underlying5 Try.underlying9 (h2.grow (hp_below hw')) _ _ hl2) rfl rfl ?_
  refine lx_bin (v := .bool true) rfl rfl (fun _ => rfl) (fun w => bin_eq_str _ _ w) rfl rfl ?_
  refine lx_assign rfl rfl rfl ?_
  refine lx_nil ?_
  refine x_ret ?_
  repeat (first | refine kseq_ret ?_ | refine kblk_ret ?_)
  exact kret_tmp rfl rfl (fun w hw => ⟨rfl, hp_below hw⟩)
theorem tail_bytes {W : World} {b : Nat} (bs : List (BitVec 8)) (hl : bs.length ≤ 48) (h : W.rangeAt b 0 ((BYs (FRs bs bs.length) 48).map U8)) : BytesAt W (some ⟨b, if 48 = 48 - bs.length then 0 else 48 - bs.length, none⟩) bs := by
  by_cases h0 : bs.length = 0
  · rw [List.length_eq_zero_iff.1 h0]
    intro j v hv
    cases hv
  · rw [if_neg (by omega)]
    refine BytesAt.range fun j v hv => ?_
    have hv' : ((BYs (FRs bs bs.length) 48).map U8)[48 - bs.length + j]? = some v := by
      rw [List.getElem?_map, ← List.getElem?_drop, bytes_from bs hl 48 rfl, ← List.getElem?_map]
      exact hv
    have := h (48 - bs.length + j) v hv'
    rw [Nat.zero_add] at this
    exact this
theorem bytes_law (ad : Option Addr) (cap : Nat) (bs : List (BitVec 8)) (a : List (BitVec 64)) (ha : a.length = 6) (w : World) (hw : Gt w) (hby : BytesAt w ad bs) :
    Calls Try.prog 7 [.slice ad bs.length cap, .agg ((a).map U64).toArray].toArray w (fun e w' => e = .returned (.bool true) ∧ Grow w w') := by
  have hGF : BOk Gt (pl w) := gt_low.plain hw
  refine calls_of_X (G := Gt) Try.func7 rfl rfl (Hp (pl w) []) (hp_refl (pl w) trivial rides_true) (good_hp hGF) ?_
  rcases Nat.lt_or_ge 200 bs.length with hA | hA
  · skip
    refine xs_plain (E := EE []) ?_
    refine lx_boxr 3 hGF rfl rfl rfl ?_
    intro b3
    refine lx_assign rfl rfl rfl ?_
    refine lx_nil ?_
    refine x_seq ?_
    refine xs_plain (E := EE []) ?_
    refine lx_call rfl rfl ent9 (known_pure) rfl rfl ?_
    refine lx_un (v := .bool false) rfl (fun _ => un_not _) rfl rfl ?_
    refine lx_nil ?_
    refine x_false rfl ?_
    refine x_skip ?_
    refine x_seq ?_
    refine xs_plain (E := EE []) ?_
    refine lx_move rfl rfl rfl ?_
    refine lx_len rfl (fun _ => len_slice Try.underlying41 _ _ _ _) rfl rfl ?_
    refine lx_bin (v := .bool true) rfl rfl (fun _ => rfl) (fun _ => (bin_gtr_i _ _ _).trans (by rw [decide_eq_true (by omega : ((bs.length : Int) > 200))])) rfl rfl ?_
    refine lx_nil ?_
    refine x_true rfl ?_
    refine xs_plain (E := EE []) ?_
    refine lx_assign rfl rfl rfl ?_
    refine lx_nil ?_
    refine x_ret ?_
    repeat (first | refine kseq_ret ?_ | refine kblk_ret ?_)
    exact kret_tmp rfl rfl (fun w hw => ⟨rfl, hp_below hw⟩)
  by_cases hB : 48 < bs.length
  · skip
    refine xs_plain (E := EE []) ?_
    refine lx_boxr 3 hGF rfl rfl rfl ?_
    intro b3
    refine lx_assign rfl rfl rfl ?_
    refine lx_nil ?_
    refine x_seq ?_
    refine xs_plain (E := EE []) ?_
    refine lx_call rfl rfl ent9 (known_pure) rfl rfl ?_
    refine lx_un (v := .bool false) rfl (fun _ => un_not _) rfl rfl ?_
    refine lx_nil ?_
    refine x_false rfl ?_
    refine x_skip ?_
    refine x_seq ?_
    refine xs_plain (E := EE []) ?_
    refine lx_move rfl rfl rfl ?_
    refine lx_len rfl (fun _ => len_slice Try.underlying41 _ _ _ _) rfl rfl ?_
    refine lx_bin (v := .bool false) rfl rfl (fun _ => rfl) (fun _ => (bin_gtr_i _ _ _).trans (by rw [decide_eq_false (by omega : ¬ ((bs.length : Int) > 200))])) rfl rfl ?_
    refine lx_nil ?_
    refine x_false rfl ?_
    refine x_skip ?_
    refine xs_plain (E := EE []) ?_
    refine lx_move rfl rfl rfl ?_
    refine lx_callC rfl rfl ent20 (fun w' hw' hG => from_big _ _ bs hB w' hG (hby.grow (hp_below hw'))) rfl rfl ?_
    refine lx_move rfl rfl rfl ?_
    refine lx_ext rfl rfl rfl rfl ?_
    refine lx_ext rfl rfl rfl rfl ?_
    refine lx_allocr 5 hGF zv23 rfl rfl ?_
    intro b5
    refine lx_storea 5 hGF rfl rfl rfl Try.sizeOf23 (by rw [List.length_map, List.length_replicate]) (by rw [List.length_map, List.length_replicate]) (one_u64 _) rfl ?_
    refine lx_assign rfl rfl rfl ?_
    refine lx_nil ?_
    refine xs_plain (E := EE []) ?_
    refine lx_move rfl rfl rfl ?_
    refine lx_callC rfl rfl ent21 (fun w' hw' hG => rfrom_big _ _ bs hB w' hG (hby.grow (hp_below hw'))) rfl rfl ?_
    refine lx_move rfl rfl rfl ?_
    refine lx_ext rfl rfl rfl rfl ?_
    refine lx_ext rfl rfl rfl rfl ?_
    refine lx_allocr 7 hGF zv27 rfl rfl ?_
    intro b7
    refine lx_storea 7 hGF rfl rfl rfl Try.sizeOf27 (by rw [List.length_map, List.length_replicate]) (by rw [List.length_map, List.length_replicate]) (one_u64 _) rfl ?_
    refine lx_assign rfl rfl rfl ?_
    refine lx_nil ?_
    refine xs_plain (E := EE []) ?_
    refine lx_loada 3 rfl rfl Try.isAgg23 Try.sizeOf23 (by rw [List.length_map, ha]) rfl rfl ?_
    refine lx_call rfl rfl ent22 (bytesOf_pure a ha) rfl rfl ?_
    refine lx_allocr 9 hGF zv46 rfl rfl ?_
    intro b9
    refine lx_storea 9 hGF rfl rfl rfl Try.sizeOf46 (by rw [List.length_map, BYs_len _ _]) (by rw [List.length_map, List.length_replicate]) (one_u8 _) rfl ?_
    refine lx_nil ?_
    refine xs_plain (E := EE []) ?_
    refine lx_slarr1 (l := 0) (h' := 48) rfl Try.underlying46 Try.sizeOf5 rfl rfl (by omega) (by omega) rfl rfl ?_
    refine lx_callC rfl rfl ent20 (fun w' hw' hG => from_back a ha _ _ _ rfl w' hG (BytesAt.range (hp_row (n := 9) rfl w' hw'))) rfl rfl ?_
    refine lx_move rfl rfl rfl ?_
    refine lx_ext rfl rfl rfl rfl ?_
    refine lx_ext rfl rfl rfl rfl ?_
    refine lx_allocr 10 hGF zv23 rfl rfl ?_
    intro b10
    refine lx_storea 10 hGF rfl rfl rfl Try.sizeOf23 (by rw [List.length_map, ha]) (by rw [List.length_map, List.length_replicate]) (one_u64 _) rfl ?_
    refine lx_assign rfl rfl rfl ?_
    refine lx_nil ?_
    refine x_seq ?_
    refine xs_drawn (E := EE []) mixed (by kernel_rfl) (by kernel_rfl) (by kernel_rfl) ?_
    refine lx_loada 5 rfl rfl Try.isAgg23 Try.sizeOf23 (by rw [List.length_map, List.length_replicate]) rfl rfl ?_
    refine lx_loada 7 rfl rfl Try.isAgg27 Try.sizeOf27 (by rw [List.length_map, List.length_replicate]) rfl rfl ?_
    refine lx_bin (v := .bool false) rfl rfl (fun w => eqg _ _ _ _ _ w) (fun w => (ne23 (List.replicate 6 0#64) (List.replicate 6 0#64) (by first | rfl | exact FRs_len _ _) (by first | rfl | exact FRs_len _ _) w).trans (by rw [decide_eq_true rfl]; rfl)) rfl rfl ?_
    refine lx_move rfl rfl rfl ?_
    refine lx_move rfl rfl rfl ?_
    refine lx_move rfl rfl rfl ?_
    refine lx_bin (v := .bool false) rfl rfl (fun _ => rfl) (fun w => bin_neq_bool 4 Try.underlying4 _ w) rfl rfl ?_
    refine lx_pick rfl rfl rfl rfl rfl ?_
    refine lx_move rfl rfl rfl ?_
    refine lx_loada 10 rfl rfl Try.isAgg23 Try.sizeOf23 (by rw [List.length_map, ha]) rfl rfl ?_
    refine lx_loada 3 rfl rfl Try.isAgg23 Try.sizeOf23 (by rw [List.length_map, ha]) rfl rfl ?_
    refine lx_bin (v := .bool false) rfl rfl (fun w => eqg _ _ _ _ _ w) (fun w => (ne23 a a ha ha w).trans (by rw [decide_eq_true rfl]; rfl)) rfl rfl ?_
    refine lx_pick rfl rfl rfl rfl rfl ?_
    refine lx_move rfl rfl rfl ?_
    refine lx_move rfl rfl rfl ?_
    refine lx_un (v := .bool false) rfl (fun _ => un_not _) rfl rfl ?_
    refine lx_pick rfl rfl rfl rfl rfl ?_
    refine lx_move rfl rfl rfl ?_
    refine lx_loada 9 rfl rfl Try.isAgg46 Try.sizeOf46 (by rw [List.length_map, BYs_len]) rfl rfl ?_
    refine lx_loada 3 rfl rfl Try.isAgg23 Try.sizeOf23 (by rw [List.length_map, ha]) rfl rfl ?_
    refine lx_call rfl rfl ent23 (rbytesOf_pure a ha) rfl rfl ?_
    refine lx_bin (v := .bool false) rfl rfl (fun w => eqg46 _ _ _ _ _ w) (fun w => bin_ne_row Try.underlying46 Try.underlying5 Try.sizeOf5 Try.isAgg5 (BYs a 48) (BYs_len _ _) w) rfl rfl ?_
    refine lx_pick rfl rfl rfl rfl rfl ?_
    refine lx_nil ?_
    refine x_false rfl ?_
    refine x_skip ?_
    refine x_seq ?_
    refine xs_plain (E := EE []) ?_
    refine lx_move rfl rfl rfl ?_
    refine lx_un (v := .bool true) rfl (fun _ => un_not _) rfl rfl ?_
    refine lx_nil ?_
    refine x_true rfl ?_
    refine xs_plain (E := EE []) ?_
    refine lx_assign rfl rfl rfl ?_
    refine lx_nil ?_
    refine x_ret ?_
    repeat (first | refine kseq_ret ?_ | refine kblk_ret ?_)
    exact kret_tmp rfl rfl (fun w hw => ⟨rfl, hp_below hw⟩)
  · skip
    refine xs_plain (E := EE []) ?_
    refine lx_boxr 3 hGF rfl rfl rfl ?_
    intro b3
    refine lx_assign rfl rfl rfl ?_
    refine lx_nil ?_
    refine x_seq ?_
    refine xs_plain (E := EE []) ?_
    refine lx_call rfl rfl ent9 (known_pure) rfl rfl ?_
    refine lx_un (v := .bool false) rfl (fun _ => un_not _) rfl rfl ?_
    refine lx_nil ?_
    refine x_false rfl ?_
    refine x_skip ?_
    refine x_seq ?_
    refine xs_plain (E := EE []) ?_
    refine lx_move rfl rfl rfl ?_
    refine lx_len rfl (fun _ => len_slice Try.underlying41 _ _ _ _) rfl rfl ?_
    refine lx_bin (v := .bool false) rfl rfl (fun _ => rfl) (fun _ => (bin_gtr_i _ _ _).trans (by rw [decide_eq_false (by omega : ¬ ((bs.length : Int) > 200))])) rfl rfl ?_
    refine lx_nil ?_
    refine x_false rfl ?_
    refine x_skip ?_
    refine xs_plain (E := EE []) ?_
    refine lx_move rfl rfl rfl ?_
    refine lx_callC rfl rfl ent20 (fun w' hw' hG => from_small _ _ _ bs rfl (by omega) w' hG (hby.grow (hp_below hw'))) rfl rfl ?_
    refine lx_move rfl rfl rfl ?_
    refine lx_ext rfl rfl rfl rfl ?_
    refine lx_ext rfl rfl rfl rfl ?_
    refine lx_allocr 5 hGF zv23 rfl rfl ?_
    intro b5
    refine lx_storea 5 hGF rfl rfl rfl Try.sizeOf23 (by rw [List.length_map, FRs_len _ _]) (by rw [List.length_map, List.length_replicate]) (one_u64 _) rfl ?_
    refine lx_assign rfl rfl rfl ?_
    refine lx_nil ?_
    refine xs_plain (E := EE []) ?_
    refine lx_move rfl rfl rfl ?_
    refine lx_callC rfl rfl ent21 (fun w' hw' hG => rfrom_small _ _ bs hB w' hG (hby.grow (hp_below hw'))) rfl rfl ?_
    refine lx_move rfl rfl rfl ?_
    refine lx_ext rfl rfl rfl rfl ?_
    refine lx_ext rfl rfl rfl rfl ?_
    refine lx_allocr 7 hGF zv27 rfl rfl ?_
    intro b7
    refine lx_storea 7 hGF rfl rfl rfl Try.sizeOf27 (by rw [List.length_map, FRs_len _ _]) (by rw [List.length_map, List.length_replicate]) (one_u64 _) rfl ?_
    refine lx_assign rfl rfl rfl ?_
    refine lx_nil ?_
    refine xs_plain (E := EE []) ?_
    refine lx_loada 3 rfl rfl Try.isAgg23 Try.sizeOf23 (by rw [List.length_map, ha]) rfl rfl ?_
    refine lx_call rfl rfl ent22 (bytesOf_pure a ha) rfl rfl ?_
    refine lx_allocr 9 hGF zv46 rfl rfl ?_
    intro b9
    refine lx_storea 9 hGF rfl rfl rfl Try.sizeOf46 (by rw [List.length_map, BYs_len _ _]) (by rw [List.length_map, List.length_replicate]) (one_u8 _) rfl ?_
    refine lx_nil ?_
    refine xs_plain (E := EE []) ?_
    refine lx_slarr1 (l := 0) (h' := 48) rfl Try.underlying46 Try.sizeOf5 rfl rfl (by omega) (by omega) rfl rfl ?_
    refine lx_callC rfl rfl ent20 (fun w' hw' hG => from_back a ha _ _ _ rfl w' hG (BytesAt.range (hp_row (n := 9) rfl w' hw'))) rfl rfl ?_
    refine lx_move rfl rfl rfl ?_
    refine lx_ext rfl rfl rfl rfl ?_
    refine lx_ext rfl rfl rfl rfl ?_
    refine lx_allocr 10 hGF zv23 rfl rfl ?_
    intro b10
    refine lx_storea 10 hGF rfl rfl rfl Try.sizeOf23 (by rw [List.length_map, ha]) (by rw [List.length_map, List.length_replicate]) (one_u64 _) rfl ?_
    refine lx_assign rfl rfl rfl ?_
    refine lx_nil ?_
    refine x_seq ?_
    refine xs_drawn (E := EE []) mixed (by kernel_rfl) (by kernel_rfl) (by kernel_rfl) ?_
    refine lx_loada 5 rfl rfl Try.isAgg23 Try.sizeOf23 (by rw [List.length_map, FRs_len]) rfl rfl ?_
    refine lx_loada 7 rfl rfl Try.isAgg27 Try.sizeOf27 (by rw [List.length_map, FRs_len]) rfl rfl ?_
    refine lx_bin (v := .bool false) rfl rfl (fun w => eqg _ _ _ _ _ w) (fun w => (ne23 (FRs bs bs.length) (FRs bs bs.length) (by first | rfl | exact FRs_len _ _) (by first | rfl | exact FRs_len _ _) w).trans (by rw [decide_eq_true rfl]; rfl)) rfl rfl ?_
    refine lx_move rfl rfl rfl ?_
    refine lx_move rfl rfl rfl ?_
    refine lx_move rfl rfl rfl ?_
    refine lx_bin (v := .bool false) rfl rfl (fun _ => rfl) (fun w => bin_neq_bool 4 Try.underlying4 _ w) rfl rfl ?_
    refine lx_pick rfl rfl rfl rfl rfl ?_
    refine lx_move rfl rfl rfl ?_
    refine lx_loada 10 rfl rfl Try.isAgg23 Try.sizeOf23 (by rw [List.length_map, ha]) rfl rfl ?_
    refine lx_loada 3 rfl rfl Try.isAgg23 Try.sizeOf23 (by rw [List.length_map, ha]) rfl rfl ?_
    refine lx_bin (v := .bool false) rfl rfl (fun w => eqg _ _ _ _ _ w) (fun w => (ne23 a a ha ha w).trans (by rw [decide_eq_true rfl]; rfl)) rfl rfl ?_
    refine lx_pick rfl rfl rfl rfl rfl ?_
    refine lx_move rfl rfl rfl ?_
    refine lx_move rfl rfl rfl ?_
    refine lx_un (v := .bool false) rfl (fun _ => un_not _) rfl rfl ?_
    refine lx_pick rfl rfl rfl rfl rfl ?_
    refine lx_move rfl rfl rfl ?_
    refine lx_loada 9 rfl rfl Try.isAgg46 Try.sizeOf46 (by rw [List.length_map, BYs_len]) rfl rfl ?_
    refine lx_loada 3 rfl rfl Try.isAgg23 Try.sizeOf23 (by rw [List.length_map, ha]) rfl rfl ?_
    refine lx_call rfl rfl ent23 (rbytesOf_pure a ha) rfl rfl ?_
    refine lx_bin (v := .bool false) rfl rfl (fun w => eqg46 _ _ _ _ _ w) (fun w => bin_ne_row Try.underlying46 Try.underlying5 Try.sizeOf5 Try.isAgg5 (BYs a 48) (BYs_len _ _) w) rfl rfl ?_
    refine lx_pick rfl rfl rfl rfl rfl ?_
    refine lx_nil ?_
    refine x_false rfl ?_
    refine x_skip ?_
    refine x_seq ?_
    refine xs_plain (E := EE []) ?_
    refine lx_move rfl rfl rfl ?_
    refine lx_un (v := .bool false) rfl (fun _ => un_not _) rfl rfl ?_
    refine lx_nil ?_
    refine x_false rfl ?_
    refine x_skip ?_
    refine xs_plain (E := EE []) ?_
    refine lx_loada 5 rfl rfl Try.isAgg23 Try.sizeOf23 (by rw [List.length_map, FRs_len]) rfl rfl ?_
    refine lx_call rfl rfl ent22 (bytesOf_pure (FRs bs bs.length) (FRs_len _ _)) rfl rfl ?_
    refine lx_allocr 12 hGF zv46 rfl rfl ?_
    intro b12
    refine lx_storea 12 hGF rfl rfl rfl Try.sizeOf46 (by rw [List.length_map, BYs_len _ _]) (by rw [List.length_map, List.length_replicate]) (one_u8 _) rfl ?_
    refine lx_nil ?_
    refine xs_plain (E := EE []) ?_
    refine lx_move rfl rfl rfl ?_
    refine lx_len rfl (fun _ => len_slice Try.underlying41 _ _ _ _) rfl rfl ?_
    refine lx_bin (v := I ((48 - bs.length : Nat) : Int)) rfl rfl (fun _ => rfl) (fun _ => (bin_sub_i _ _ _ (by unfold inI; omega)).trans (by rw [show (48 : Int) - (bs.length : Int) = ((48 - bs.length : Nat) : Int) by omega])) rfl rfl ?_
    refine lx_slfrom rfl Try.underlying46 Try.sizeOf5 rfl (by omega) rfl rfl ?_
    refine lx_move rfl rfl rfl ?_
    refine lx_callC rfl rfl ent24 (fun w' hw' hG => bytes_calls bs _ _ _ _ _ _ (by omega) rfl w' hG (tail_bytes bs (by omega) (hp_row (n := 12) rfl w' hw')) (hby.grow (hp_below hw'))) rfl rfl ?_
    refine lx_assign rfl rfl rfl ?_
    refine lx_nil ?_
    refine x_ret ?_
    repeat (first | refine kseq_ret ?_ | refine kblk_ret ?_)
    exact kret_tmp rfl rfl (fun w hw => ⟨rfl, hp_below hw⟩)
end Go.Proofs.Yteohckfbphdngaa
