/-
  The walks of the laws ShaBlocks and ShaLengths.
-/
import Derived.Test.YtkfnadpdcgcffaaDoorL4
import Derived.Laws.MakeOwn
namespace Go.Proofs.YtkfnadpdcgcffaaDoor
open Go.RowKit
set_option maxRecDepth 100000
set_option maxHeartbeats 1000000
theorem pad_len (bs : List (BitVec 8)) : (PAD bs).length = 64 * (blks bs).length := by rw [pad_flat, flat_len (blks bs) (blks_len bs)]
theorem pad_len2 (bs : List (BitVec 8)) : (PAD bs).length = 64 * ((bs.length + 8) / 64 + 1) := by rw [PAD, PE_len]; unfold nz; omega
theorem ft_take (bs : List (BitVec 8)) (k : Nat) (hk : k ≤ (blks bs).length) : FT bs k = (PAD bs).take (64 * k) := by
  have h : PAD bs = FT bs k ++ ((blks bs).drop k).flatten := by rw [pad_flat, FT, ← List.flatten_append, List.take_append_drop]
  rw [h, List.take_append_of_le_length (by rw [ft_len bs k hk]; exact Nat.le_refl _), List.take_of_length_le (by rw [ft_len bs k hk]; exact Nat.le_refl _)]
theorem ft_all (bs : List (BitVec 8)) (k : Nat) (hk : (blks bs).length ≤ k) : FT bs k = PAD bs := by rw [FT, pad_flat, List.take_of_length_le hk]
theorem walk_any (a : Option Addr) (cap len : Nat) (bs : List (BitVec 8)) (hlen : bs.length = len) (m : Int) (hm : 1 ≤ m) (hm' : m ≤ 70000000000) (hl : bs.length ≤ 5000) (w : World) (hw : Gt w) (hby : BytesAt w a bs) :
    Calls Tryd.prog 16 [.slice a len cap, I m].toArray w (fun e w' => ∃ b c cap1, e = .returned (.slice (some ⟨b, 0, none⟩) (FT bs m.toNat).length cap1) ∧ Grow w w' ∧ w.heap.size ≤ b ∧ OwnB w' b c 5 ∧ (FT bs m.toNat).length ≤ cap1 ∧ c.take (FT bs m.toNat).length = (FT bs m.toNat).map U8) := by
  subst hlen
  refine (walk_calls a cap bs m hm hm' hl w hw hby).mono fun e w' ⟨sv, he, hg, hcl⟩ => ?_
  rcases hcl with ⟨h0, _⟩ | ⟨b, c, cap1, rfl, hb, hob, hcc, hle, htk⟩
  · have h1 := pad_len bs
    have h2 := pad_len2 bs
    have h3 := congrArg List.length h0
    rcases Nat.le_total (blks bs).length m.toNat with h | h
    · rw [ft_all bs _ h, List.length_nil] at h3; omega
    · rw [ft_len bs _ h, List.length_nil] at h3; omega
  · exact ⟨b, c, cap1, he, hg, hb, hob, hle, htk⟩
theorem part_bytes {B : Bs} {L : Hl} {Y : Nat → Prop} {n b : Nat} {t : TypeId} {xs : List (BitVec 8)} {c : List Value} (k : Nat) (hl : lkB L n = some (b, c, t)) (hc : c.take xs.length = xs.map U8) : ∀ w, Hq B L Y w → BytesAt w (some ⟨b, 0, none⟩) (xs.take k) := fun w h j v hv => by
  have := head_bytes2 hl hc w h j v (by
    rw [List.getElem?_map] at hv ⊢
    rw [List.getElem?_take] at hv
    split at hv
    · exact hv
    · cases hv)
  exact this
section
variable {P : Program} {G : Cls} {ro : Option Nat} {ops : Array Oper} {N : Nat} {ds : List Deferred} {fs : List Nat} {Z : Fr → Cls → Prop} {F : Fr} {C : Cls} {rest : List Oper}
variable {d : Nat} {ty : TypeId} {pos : String} {af : Array Edge} {gd : Option (Nat × Bool)} {B : Bs} {L : Hl}
/-- Bytes that are made. -/
theorem lx_make (n : Nat) {t e : TypeId} {x : Operand} (k : Nat) (hk : k ≤ 1000000) (hB : BOk G B) (hx : evF F x = some (I k)) (hu : P.underlying t = some (.slice e)) (hi : TI P e (.int .u8 0) 1 1)
    (hw : wantF ops F ⟨some d, .makeSlice t x x, ty, pos, af, gd⟩ = some true) (hd : Nat.blt d N = true)
    (h : ∀ b, Lx P G ro ops N ds (EE fs) Z rest ((d, .slice (some ⟨b, 0, none⟩) k k) :: F) (Hp B ((n, b, (List.replicate k 0#8).map U8, e) :: L))) : Lx P G ro ops N ds (EE fs) Z (⟨some d, .makeSlice t x x, ty, pos, af, gd⟩ :: rest) F (Hp B L) := by
  obtain ⟨i, hi, hz, hsz, hby⟩ := hi
  refine lx_run rfl hw hd (fun _ h => by cases h) fun a w ha hC => ?_
  have hr := run_make (P := P) w t e i (.int .u8 0) hu hi hz .i64 .i64 k k (by omega) (by omega) (by rw [hby]; omega) (by omega)
  have hm : (.cells (madeCells (Value.int .u8 0).cells ((k : Int).toNat * i.size)) e : Obj) = .cells ((List.replicate k 0#8).map U8).toArray e := by
    congr 1
    rw [hsz, Int.toNat_natCast, Nat.mul_one]
    apply Array.ext'
    rw [List.map_replicate]
    show _ = List.replicate k (U8 0#8)
    apply List.ext_getElem
    · simp [madeCells, Value.cells]
    · intro j h1 h2
      simp [madeCells, Value.cells, U8, Nat.mod_one]
  rw [hm] at hr
  refine ⟨_, _, _, .inl ?_, good_hp hB, hC.alloc hB.r n ((List.replicate k 0#8).map U8) e, h w.heap.size⟩
  simp only [execOp, ha.ev hx, Sem.run_bind, hr, Result.andThen_ok, Int.toNat_natCast]
  rfl
end
/-- What the law writes. -/
def SQ (x : BitVec 8) (n : Nat) : Nat → List (BitVec 8)
  | 0 => List.replicate n 0#8
  | k + 1 => (SQ x n k).set k (x + BitVec.ofInt 8 k)
theorem SQ_len (x : BitVec 8) (n : Nat) : ∀ k, (SQ x n k).length = n
  | 0 => by simp [SQ]
  | k + 1 => by simp [SQ, SQ_len x n k]

theorem blocks_law (a : Option Addr) (cap : Nat) (bs : List (BitVec 8)) (z : Int) (hz : inI z) (w : World) (hw : Gt w) (hby : BytesAt w a bs) :
    Calls Tryd.prog 4 [.slice a bs.length cap, I z].toArray w (fun e w' => e = .returned (.bool true) ∧ Grow w w') := by
  have hGF : BOk Gt (pl w) := gt_low.plain hw
  have hp1 := pad_len bs
  have hp2 := pad_len2 bs
  refine calls_of_X (G := Gt) Tryd.func4 rfl rfl (Hp (pl w) []) (hp_refl (pl w) trivial rides_true) (good_hp hGF) ?_
  rcases Nat.lt_or_ge 5000 bs.length with hA | hA
  · skip
    refine xs_plain (E := EE [14, 16]) ?_
    refine lx_assign rfl rfl rfl ?_
    refine lx_nil ?_
    refine x_seq ?_
    refine xs_plain (E := EE [14, 16]) ?_
    refine lx_call rfl rfl ent8 (known_pure) rfl rfl ?_
    refine lx_un (v := .bool false) rfl (fun _ => un_not _) rfl rfl ?_
    refine lx_nil ?_
    refine x_false rfl ?_
    refine x_skip ?_
    refine x_seq ?_
    refine xs_plain (E := EE [14, 16]) ?_
    refine lx_move rfl rfl rfl ?_
    refine lx_len rfl (fun _ => len_slice Tryd.underlying22 _ _ _ _) rfl rfl ?_
    refine lx_bin (v := .bool true) rfl rfl (fun _ => rfl) (fun w => (bin_gtr_i _ _ _).trans (by rw [decide_eq_true (by omega : ((bs.length : Int) > 5000))])) rfl rfl ?_
    refine lx_nil ?_
    refine x_true rfl ?_
    refine xs_plain (E := EE [14, 16]) ?_
    refine lx_assign rfl rfl rfl ?_
    refine lx_nil ?_
    refine x_ret ?_
    repeat (first | refine kseq_ret ?_ | refine kblk_ret ?_)
    exact kret_tmp rfl rfl (fun w hw => ⟨rfl, hp_below hw⟩)
  · skip
    refine xs_plain (E := EE [14, 16]) ?_
    refine lx_assign rfl rfl rfl ?_
    refine lx_nil ?_
    refine x_seq ?_
    refine xs_plain (E := EE [14, 16]) ?_
    refine lx_call rfl rfl ent8 (known_pure) rfl rfl ?_
    refine lx_un (v := .bool false) rfl (fun _ => un_not _) rfl rfl ?_
    refine lx_nil ?_
    refine x_false rfl ?_
    refine x_skip ?_
    refine x_seq ?_
    refine xs_plain (E := EE [14, 16]) ?_
    refine lx_move rfl rfl rfl ?_
    refine lx_len rfl (fun _ => len_slice Tryd.underlying22 _ _ _ _) rfl rfl ?_
    refine lx_bin (v := .bool false) rfl rfl (fun _ => rfl) (fun w => (bin_gtr_i _ _ _).trans (by rw [decide_eq_false (by omega : ¬ ((bs.length : Int) > 5000))])) rfl rfl ?_
    refine lx_nil ?_
    refine x_false rfl ?_
    refine x_skip ?_
    refine xs_plain (E := EE [14, 16]) ?_
    refine lx_move rfl rfl rfl ?_
    refine lx_callE rfl rfl ent14 rfl rfl (fun w' hw' => (pad_calls _ _ bs (by omega) w' (hGF.g _ _ _ hw') (hby.grow (hp_below hw'))).mono fun e w'' h => ?_)
    obtain ⟨sv, rfl, hg, hcl⟩ := h
    rcases hcl with ⟨h0, _⟩ | ⟨b5, c, cap5, rfl, hb5, hob, hcc, hle, htk⟩
    · exact absurd (congrArg List.length h0) (by rw [pad_len2]; simp)
    refine ⟨_, _, rfl, good_hp hGF, hw'.news rides_true hg [(12, b5, c, 5)] ?_ inj_one, ?_⟩
    · intro n' b' c' t' hl
      rcases lkB_cons hl with ⟨_, e⟩ | ⟨_, hl⟩
      · cases e; exact ⟨hb5, hob⟩
      · cases hl
    clear hw' hg hb5 hob hcc
    refine lx_assign rfl rfl rfl ?_
    refine lx_nil ?_
    refine xs_plain (E := EE [14, 16]) ?_
    refine lx_move rfl rfl rfl ?_
    refine lx_move rfl rfl rfl ?_
    refine lx_len rfl (fun _ => len_slice Tryd.underlying22 _ _ _ _) rfl rfl ?_
    refine lx_bin (v := I (((PAD bs).length / 64 : Nat) : Int)) rfl rfl (fun _ => rfl) (fun _ => bin_quo_i _ _ _ (by decide) (show inI (((PAD bs).length / 64 : Nat) : Int) by unfold inI; omega)) rfl rfl ?_
    refine lx_call rfl rfl ent15 (place_pure z _ (by omega) hz (by unfold inI; omega)) rfl rfl ?_
    obtain ⟨q, hq, hq2⟩ : ∃ q : Nat, z % (((PAD bs).length / 64 : Nat) : Int) = (q : Int) ∧ q < (PAD bs).length / 64 := ⟨(z % (((PAD bs).length / 64 : Nat) : Int)).toNat, by have := Int.emod_nonneg z (by omega : (((PAD bs).length / 64 : Nat) : Int) ≠ 0); omega, by have := Int.emod_nonneg z (by omega : (((PAD bs).length / 64 : Nat) : Int) ≠ 0); have := Int.emod_lt_of_pos z (by omega : (0 : Int) < (((PAD bs).length / 64 : Nat) : Int)); omega⟩
    rw [hq]
    clear hq
    refine lx_assign rfl rfl rfl ?_
    refine lx_nil ?_
    refine xs_draws (E := EE [14, 16]) [0, 1, 2, 4, 5, 6, 7, 8, 3, 9, 10, 11, 12, 13, 15, 14, 16, 17, 18] mixed rfl (by kernel_rfl) (by kernel_rfl) (by kernel_rfl) ?_
    refine lx_move rfl rfl rfl ?_
    refine lx_move rfl rfl rfl ?_
    refine lx_bin rfl rfl (fun _ => rfl) (fun _ => bin_add_i _ _ _ (by unfold inI; omega)) rfl rfl ?_
    refine lx_move rfl rfl rfl ?_
    refine lx_move rfl rfl rfl ?_
    refine lx_bin rfl rfl (fun _ => rfl) (fun _ => bin_mul_i _ _ _ (by unfold inI; omega)) rfl rfl ?_
    refine lx_bin rfl rfl (fun _ => rfl) (fun _ => bin_add_i _ _ _ (by unfold inI; omega)) rfl rfl ?_
    refine lx_slsl (l := 0) (h' := 64 * q + 64) rfl Tryd.underlying22 Tryd.sizeOf5 rfl rfl (by omega) rfl rfl ?_
    rw [if_neg (by omega : ¬ cap5 = 0), Nat.sub_zero, show Option.map (fun x : Addr => x.add (0 * 1)) (some ⟨b5, 0, none⟩) = some ⟨b5, 0, none⟩ from rfl]
    refine lx_callE rfl rfl ent16 rfl rfl (fun w' hw' => (walk_any _ _ _ bs rfl ((q : Int) + 1) (by omega) (by omega) hA w' (hGF.g _ _ _ hw') (hby.grow (hp_below hw'))).mono fun e w'' h => ?_)
    obtain ⟨b21, c21, cap21, rfl, hg, hb, hob, l21, t21⟩ := h
    refine ⟨_, _, rfl, good_hp hGF, hw'.news rides_true hg [(21, b21, c21, 5)] ?_ inj_one, ?_⟩
    · intro n' b' c' t' hl
      rcases lkB_cons hl with ⟨_, e⟩ | ⟨_, hl⟩
      · cases e; exact ⟨hb, hob⟩
      · cases hl
    clear hw' hg hb hob
    refine lx_callC rfl rfl ent13 (fun w' hw' hG => bytes_calls ((PAD bs).take (64 * q + 64)) _ _ _ _ _ _ (by rw [show ((q : Int) + 1).toNat = q + 1 by omega, ft_take bs _ (by omega)]; rfl) (by rw [List.length_take]; omega) w' hG (by have := head_bytes2 (n := 21) rfl t21 w' hw'; rw [show ((q : Int) + 1).toNat = q + 1 by omega, ft_take bs _ (by omega)] at this; exact this) (part_bytes (n := 12) _ rfl htk w' hw')) rfl rfl ?_
    refine lx_move rfl rfl rfl ?_
    refine lx_move rfl rfl rfl ?_
    refine lx_move rfl rfl rfl ?_
    refine lx_len rfl (fun _ => len_slice Tryd.underlying22 _ _ _ _) rfl rfl ?_
    refine lx_move rfl rfl rfl ?_
    refine lx_callE rfl rfl ent16 rfl rfl (fun w' hw' => (walk_any _ _ _ bs rfl ((PAD bs).length : Int) (by omega) (by omega) hA w' (hGF.g _ _ _ hw') (hby.grow (hp_below hw'))).mono fun e w'' h => ?_)
    obtain ⟨b32, c32, cap32, rfl, hg, hb, hob, l32, t32⟩ := h
    refine ⟨_, _, rfl, good_hp hGF, hw'.news rides_true hg [(32, b32, c32, 5)] ?_ inj_one, ?_⟩
    · intro n' b' c' t' hl
      rcases lkB_cons hl with ⟨_, e⟩ | ⟨_, hl⟩
      · cases e; exact ⟨hb, hob⟩
      · cases hl
    clear hw' hg hb hob
    refine lx_callC rfl rfl ent13 (fun w' hw' hG => bytes_calls (PAD bs) _ _ _ _ _ _ (by rw [ft_all bs _ (by omega)]) rfl w' hG (by have := head_bytes2 (n := 32) rfl t32 w' hw'; rw [ft_all bs _ (by omega)] at this; exact this) (head_bytes2 (n := 12) rfl htk w' hw')) rfl rfl ?_
    refine lx_pick rfl rfl rfl rfl rfl ?_
    refine lx_assign rfl rfl rfl ?_
    refine lx_nil ?_
    refine x_ret ?_
    repeat (first | refine kseq_ret ?_ | refine kblk_ret ?_)
    exact kret_tmp rfl rfl (fun w hw => ⟨rfl, hp_below hw⟩)
theorem lengths_law (z : Int) (hz : inI z) (x : BitVec 8) (w : World) (hw : Gt w) :
    Calls Tryd.prog 7 [I z, U8 x].toArray w (fun e w' => e = .returned (.bool true) ∧ Grow w w') := by
  have hGF : BOk Gt (pl w) := gt_low.plain hw
  refine calls_of_X (G := Gt) Tryd.func7 rfl rfl (Hp (pl w) []) (hp_refl (pl w) trivial rides_true) (good_hp hGF) ?_
  refine xs_plain (E := EE [11, 16]) ?_
  refine lx_assign rfl rfl rfl ?_
  refine lx_nil ?_
  refine x_seq ?_
  refine xs_plain (E := EE [11, 16]) ?_
  refine lx_call rfl rfl ent8 (known_pure) rfl rfl ?_
  refine lx_un (v := .bool false) rfl (fun _ => un_not _) rfl rfl ?_
  refine lx_nil ?_
  refine x_false rfl ?_
  refine x_skip ?_
  refine xs_plain (E := EE [11, 16]) ?_
  refine lx_move rfl rfl rfl ?_
  refine lx_call rfl rfl ent15 (place_pure z 300 (by omega) hz (by unfold inI; omega)) rfl rfl ?_
  obtain ⟨n, hn, hn2⟩ : ∃ n : Nat, z % 300 = (n : Int) ∧ n < 300 := ⟨(z % 300).toNat, by omega, by omega⟩
  rw [hn]
  clear hn
  refine lx_assign rfl rfl rfl ?_
  refine lx_nil ?_
  refine xs_plain (E := EE [11, 16]) ?_
  refine lx_move rfl rfl rfl ?_
  refine lx_make 12 n (by omega) hGF rfl Tryd.underlying22 ti5 rfl rfl ?_
  intro b12
  refine lx_assign rfl rfl rfl ?_
  refine lx_nil ?_
  refine x_seq ?_
  refine xs_plain (E := EE [11, 16]) ?_
  refine lx_assign rfl rfl rfl ?_
  refine lx_nil ?_
  refine x_block ?_
  refine x_for (ι := { i : Nat // i ≤ n }) (fun y => [(0, I (n : Int)), (1, U8 x), (4, .bool false), (5, .slice (some ⟨b12, 0, none⟩) n n), (6, I (y.1 : Int))]) (fun y => [(12, b12, (SQ x n y.1).map U8, 5)]) (fun y => n - y.1) ⟨0, by omega⟩ hGF ⟨rfl, rfl, rfl, rfl, rfl, trivial⟩ ⟨rfl, trivial⟩ ?_
  rintro ⟨i, hi⟩
  dsimp only
  refine x_seq ?_
  refine xs_plain (E := EE [11, 16]) ?_
  refine lx_move rfl rfl rfl ?_
  refine lx_move rfl rfl rfl ?_
  refine lx_bin rfl rfl (fun _ => rfl) (fun _ => bin_lss_i _ _ _) rfl rfl ?_
  refine lx_nil ?_
  refine x_if rfl (fun hc => ?_) (fun hc => ?_)
  · simp only [decide_eq_true_eq] at hc
    refine x_skip ?_
    refine x_seq ?_
    refine x_block ?_
    refine x_plain (E := EE [11, 16]) ?_
    refine lx_move rfl rfl rfl ?_
    refine lx_move rfl rfl rfl ?_
    refine lx_move rfl rfl rfl ?_
    refine lx_move rfl rfl rfl ?_
    refine lx_conv rfl rfl (fun _ => conv_i_u8 Tryd.underlying3 Tryd.underlying5 _) rfl rfl ?_
    refine lx_bin rfl rfl (fun _ => rfl) (fun _ => bin_add_u8 _ _ _) rfl rfl ?_
    refine lx_is1 i rfl rfl Tryd.underlying22 Tryd.sizeOf5 rfl (by omega) rfl rfl ?_
    rw [Nat.zero_add]
    refine lx_storem 12 U8 hGF rfl rfl rfl Tryd.sizeOf5 rfl (by rw [SQ_len]; omega) rfl ?_
    refine lx_nil ?_
    refine x_plain (E := EE [11, 16]) ?_
    refine lx_move rfl rfl rfl ?_
    refine lx_bin rfl rfl (fun _ => rfl) (fun _ => bin_add_i _ _ _ (by unfold inI; omega)) rfl rfl ?_
    refine lx_assign rfl rfl rfl ?_
    refine lx_nil ?_
    repeat (refine kblk_n ?_)
    refine kseq_n ?_
    exact ⟨rfl, ⟨i + 1, by omega⟩, _, by show n - (i + 1) < n - i; omega, rfl, ⟨rfl, rfl, rfl, rfl, rfl, trivial⟩, ⟨rfl, trivial⟩⟩
  · obtain rfl : n = i := by simp at hc; omega
    have hfl : (FT (SQ x n n) (100 : Int).toNat).length = 64 * ((n + 8) / 64 + 1) := by have h1 := pad_len (SQ x n n); have h2 := pad_len2 (SQ x n n); rw [SQ_len] at h2; rw [ft_all _ _ (by show _ ≤ 100; omega)]; exact h2
    refine x_exit ?_
    refine xs_plain (E := EE [11, 16]) ?_
    refine lx_move rfl rfl rfl ?_
    refine lx_callC rfl rfl ent10 (fun w' hw' hG => sum_any _ _ _ (SQ x n n) (SQ_len x n n) (Nat.le_refl _) w' hG (BytesAt.range (hp_row (n := 12) rfl w' hw'))) rfl rfl ?_
    refine lx_callE rfl rfl ent11 rfl rfl (fun w' hw' => (new_calls w' (hGF.g _ _ _ hw')).mono fun e w'' h => ?_)
    obtain ⟨bm, rfl, hg, hb', hob⟩ := h
    refine ⟨_, _, rfl, good_hp hGF, hw'.news rides_true hg [(27, bm, MK.map U32, 53)] ?_ inj_one, ?_⟩
    · intro n' b' c' t' hl
      rcases lkB_cons hl with ⟨_, e⟩ | ⟨_, hl⟩
      · cases e; exact ⟨hb', hob⟩
      · cases hl
    clear hw' hg hb' hob
    refine lx_move rfl rfl rfl ?_
    refine lx_callC rfl rfl ent12 (fun w' hw' hG => msum_any bm _ _ _ (SQ x n n) (SQ_len x n n) (by rw [SQ_len]; omega) w' hG (hw'.own 27 _ _ _ rfl).1 (BytesAt.range (hp_row (n := 12) rfl w' hw'))) rfl rfl ?_
    refine lx_bin (v := .bool true) rfl rfl (fun w => eqg25 _ _ _ _ _ w) (fun w => bin_eq_row Tryd.underlying25 Tryd.underlying5 Tryd.sizeOf5 Tryd.isAgg5 (SHA (SQ x n n)) (SHA_len _) w) rfl rfl ?_
    refine lx_move rfl rfl rfl ?_
    refine lx_move rfl rfl rfl ?_
    refine lx_callE rfl rfl ent16 rfl rfl (fun w' hw' => (walk_any _ _ _ (SQ x n n) (SQ_len x n n) 100 (by omega) (by omega) (by rw [SQ_len]; omega) w' (hGF.g _ _ _ hw') (BytesAt.range (hp_row (n := 12) rfl w' hw'))).mono fun e w'' h => ?_)
    obtain ⟨b33, c33, cap33, rfl, hg, hb, hob, l33, t33⟩ := h
    refine ⟨_, _, rfl, good_hp hGF, hw'.news rides_true hg [(33, b33, c33, 5)] ?_ inj_one, ?_⟩
    · intro n' b' c' t' hl
      rcases lkB_cons hl with ⟨_, e⟩ | ⟨_, hl⟩
      · cases e; exact ⟨hb, hob⟩
      · cases hl
    clear hw' hg hb hob
    refine lx_len rfl (fun _ => len_slice Tryd.underlying22 _ _ _ _) rfl rfl ?_
    refine lx_move rfl rfl rfl ?_
    refine lx_bin rfl rfl (fun _ => rfl) (fun _ => bin_add_i _ _ _ (by unfold inI; omega)) rfl rfl ?_
    refine lx_bin (v := I (((n + 8) / 64 : Nat) : Int)) rfl rfl (fun _ => rfl) (fun _ => bin_quo_i _ _ _ (by decide) (show inI (((n + 8) / 64 : Nat) : Int) by unfold inI; omega)) rfl rfl ?_
    refine lx_bin rfl rfl (fun _ => rfl) (fun _ => bin_add_i _ _ _ (by unfold inI; omega)) rfl rfl ?_
    refine lx_bin rfl rfl (fun _ => rfl) (fun _ => bin_mul_i _ _ _ (by unfold inI; omega)) rfl rfl ?_
    refine lx_bin (v := .bool true) rfl rfl (fun _ => rfl) (fun w => (bin_eql_i _ _ _).trans (by rw [hfl]; exact congrArg (fun b => Result.ok (Value.bool b) w) (beq_iff_eq.2 (by omega)))) rfl rfl ?_
    refine lx_pick rfl rfl rfl rfl rfl ?_
    refine lx_assign rfl rfl rfl ?_
    refine lx_nil ?_
    refine x_ret ?_
    repeat (first | refine kseq_ret ?_ | refine kblk_ret ?_)
    exact kret_tmp rfl rfl (fun w hw => ⟨rfl, hp_below hw⟩)
end Go.Proofs.YtkfnadpdcgcffaaDoor
