/-
  The walk of Hash.Write.
-/
import Derived.Test.YtkfnadpdcgcffaaDoorH2
namespace Go.Proofs.YtkfnadpdcgcffaaDoor
open Go.RowKit
set_option maxRecDepth 100000
/-- Where the loop of Write stands. -/
structure WSt (T bs : List (BitVec 8)) (w : World) (bh : Nat) where
  (c : Nat) (st : List (BitVec 32)) (rs : List (BitVec 8)) (n : BitVec 64) (a : Option Addr) (cap : Nat)
  hc : c ≤ bs.length
  hi : HInv (T ++ bs.take c) st rs n
  hb : BytesAt w a (bs.drop c)
  hcap : (bs.drop c).length ≤ cap
  hne : bs.drop c ≠ [] → ∀ ad, a = some ad → ad.block ≠ bh
theorem take_more (bs : List (BitVec 8)) (c m : Nat) : bs.take c ++ (bs.drop c).take m = bs.take (c + m) := by rw [List.take_add]

theorem write_calls (T bs : List (BitVec 8)) (bh : Nat) (st : List (BitVec 32)) (rs : List (BitVec 8)) (n : BitVec 64) (hi : HInv T st rs n) (hT : (T ++ bs).length < 9223372036854775808) (a : Option Addr) (cap : Nat) (hcap : bs.length ≤ cap) (w : World) (hw : Gt w) (ho : OwnB w bh (hc st rs n) 41) (hbh : 1 ≤ bh) (hby : BytesAt w a bs) (hne : bs ≠ [] → ∀ ad, a = some ad → ad.block ≠ bh) :
    Calls Tryd.prog 19 [.pointer (some ⟨bh, 0, none⟩), .slice a bs.length cap].toArray w (fun e w' => e = .returned (.tuple #[]) ∧ Mod bh w w' ∧ ∃ st' rs' n', HInv (T ++ bs) st' rs' n' ∧ OwnB w' bh (hc st' rs' n') 41) := by
  have hGF : BOk Gt (plM w (fun k => k = bh)) := (gt_low.from (M := fun k => k = bh) hw (fun m hm => by subst hm; exact hbh)).ok (B := plM w (fun k => k = bh)) rides_true
  refine calls_of_X (G := Gt) Tryd.func19 rfl rfl (Hp (plM w (fun k => k = bh)) [(0, bh, hc st rs n, 41)]) (hp_one ho) (good_hp hGF) ?_
  refine x_block ?_
  refine x_for (ι := WSt T bs w bh) (fun x => [(0, .pointer (some ⟨bh, 0, none⟩)), (1, .slice x.a (bs.drop x.c).length x.cap)]) (fun x => [(0, bh, hc x.st x.rs x.n, 41)]) (fun x => bs.length - x.c) ⟨0, st, rs, n, a, cap, Nat.zero_le _, by simpa using hi, by simpa using hby, by simpa using hcap, hne⟩ hGF ⟨rfl, rfl, trivial⟩ ⟨rfl, trivial⟩ ?_
  rintro x
  have x8 := x.hi.st8
  have x64 := x.hi.rs64
  have hdl : (bs.drop x.c).length = bs.length - x.c := List.length_drop
  have hxc := x.hc
  refine x_seq ?_
  refine xs_plain (E := EE []) ?_
  refine lx_move rfl rfl rfl ?_
  refine lx_len rfl (fun _ => len_slice Tryd.underlying22 _ _ _ _) rfl rfl ?_
  refine lx_bin rfl rfl (fun _ => rfl) (fun _ => bin_gtr_i _ _ _) rfl rfl ?_
  refine lx_nil ?_
  refine x_if rfl (fun hc => ?_) (fun hc => ?_)
  · simp only [decide_eq_true_eq] at hc
    have hmod : (x.n % 64#64).toNat = (T ++ bs.take x.c).length % 64 := by rw [BitVec.toNat_umod, x.hi.toNat]; rfl
    have hm64 : (x.n % 64#64).toNat < 64 := by omega
    obtain ⟨xs, hxs⟩ : ∃ xs, (bs.drop x.c).take (64 - (x.n % 64#64).toNat) = xs := ⟨_, rfl⟩
    have hxl : xs.length = Nat.min (bs.drop x.c).length (64 - (x.n % 64#64).toNat) := by rw [← hxs, List.length_take]; exact Nat.min_comm _ _
    have hx1 : xs.length ≤ (bs.drop x.c).length := by rw [hxl]; exact Nat.min_le_left _ _
    have hx2 : xs.length ≤ 64 - (x.n % 64#64).toNat := by rw [hxl]; exact Nat.min_le_right _ _
    have hx0 : 0 < xs.length := by rw [hxl]; exact Nat.lt_min.2 ⟨by omega, by omega⟩
    have hdne : bs.drop x.c ≠ [] := fun e => by rw [e] at hc; simp at hc
    have hbx : BytesAt w x.a xs := hxs ▸ x.hb.take _
    have hmx : (x.n % 64#64).toNat + xs.length ≤ x.rs.length := by rw [x64]; omega
    have hxt : T ++ bs.take (x.c + xs.length) = T ++ bs.take x.c ++ xs := by
      rw [← take_more, ← List.append_assoc, ← List.prefix_iff_eq_take.1 (hxs ▸ List.take_prefix _ _)]
    have hdn : (bs.drop x.c).length - xs.length = (bs.drop (x.c + xs.length)).length := by rw [List.length_drop, List.length_drop]; omega
    have hroom : 8 + (x.n % 64#64).toNat + xs.length ≤ 73 := by omega
    have hlen2 : (T ++ bs.take x.c ++ xs).length < 9223372036854775808 := by simp at hT ⊢; omega
    have hb3 : BytesAt w (if x.cap = xs.length then x.a else x.a.map (·.add (xs.length * 1))) (bs.drop (x.c + xs.length)) := by
      have := x.hb.drop (cap := x.cap) (l := xs.length) x.hcap (by omega)
      rwa [List.drop_drop] at this
    have hc3 : (bs.drop (x.c + xs.length)).length ≤ x.cap - xs.length := by have := x.hcap; simp at this ⊢; omega
    have hn3 : bs.drop (x.c + xs.length) ≠ [] → ∀ ad, (if x.cap = xs.length then x.a else x.a.map (·.add (xs.length * 1))) = some ad → ad.block ≠ bh := by
      intro _ ad had
      split at had
      · exact x.hne hdne ad had
      · cases hxa : x.a with
        | none => rw [hxa] at had; cases had
        | some ad0 =>
          rw [hxa] at had
          cases had
          rw [block_add]; exact x.hne hdne ad0 hxa
    have hsum : (x.n + BitVec.ofInt 64 xs.length).toNat = (T ++ bs.take x.c).length + xs.length := by
      rw [BitVec.toNat_add, x.hi.toNat, BitVec.ofInt_natCast, BitVec.toNat_ofNat]
      simp at hlen2 ⊢; omega
    have hsm : ((x.n + BitVec.ofInt 64 xs.length) % 64#64).toNat = ((T ++ bs.take x.c).length + xs.length) % 64 := by rw [BitVec.toNat_umod, hsum]; rfl
    have hfl0 : (((x.n + BitVec.ofInt 64 xs.length) % 64#64 == 0#64) = true → (T ++ bs.take x.c).length % 64 + xs.length = 64) ∧ (((x.n + BitVec.ofInt 64 xs.length) % 64#64 == 0#64) = false → (T ++ bs.take x.c).length % 64 + xs.length < 64) := by
      refine ⟨fun h => ?_, fun h => ?_⟩
      · have := congrArg BitVec.toNat (beq_iff_eq.1 h)
        rw [hsm] at this
        have h0 : (0#64).toNat = 0 := rfl
        omega
      · have hne : ¬ ((x.n + BitVec.ofInt 64 xs.length) % 64#64).toNat = 0 := fun e => (beq_eq_false_iff_ne.1 h) (BitVec.eq_of_toNat_eq (by rw [e]; rfl))
        rw [hsm] at hne
        omega
    refine x_skip ?_
    refine x_block ?_
    refine xs_plain (E := EE []) ?_
    refine lx_move rfl rfl rfl ?_
    refine lx_callC rfl rfl ent29 (fun w' hw' hG => reached_calls bh x.st x.rs x.n x8 x64 w' hG (hw'.own 0 _ _ _ rfl).1) rfl rfl ?_
    refine lx_allocr 4 hGF zv37 rfl rfl ?_
    intro b4
    refine lx_storea 4 hGF rfl rfl rfl Tryd.sizeOf37 (by rw [List.length_map, rch_len x.hi.st8]) (by rw [List.length_map, List.length_replicate]) (one_u32 _) rfl ?_
    refine lx_nil ?_
    refine xs_drawn (E := EE []) mixed (by kernel_rfl) (by kernel_rfl) (by kernel_rfl) ?_
    refine lx_move rfl rfl rfl ?_
    refine lx_nilc rfl rfl rfl ?_
    refine lx_fak 8 rfl Tryd.underlying41 rfl Tryd.sizeOf38 (by decide) rfl rfl rfl ?_
    refine lx_move rfl rfl rfl ?_
    refine lx_nilc rfl rfl rfl ?_
    refine lx_fak 72 rfl Tryd.underlying41 rfl Tryd.sizeOf39 (by decide) rfl rfl rfl ?_
    refine lx_loadl 0 rfl rfl (hc_72 x8 x64) Tryd.isAgg39 rfl rfl ?_
    refine lx_bin rfl rfl (fun _ => rfl) (fun _ => bin_rem_u64 _ _ _ (by decide)) rfl rfl ?_
    refine lx_sllo rfl Tryd.underlying38 Tryd.sizeOf5 rfl hm64 rfl rfl ?_
    refine lx_move rfl rfl rfl ?_
    refine lx_copys (cs := xs) 0 hGF rfl rfl rfl Tryd.underlying22 info5 hxl (fun w' h => bytes_mod hbx (hp_mod h) (x.hne hdne)) (by rw [hc_len x8 x64]; exact hroom) rfl rfl ?_
    rw [lay_part x8 _ xs hmx]
    have x64 : (x.rs.take (x.n % 64#64).toNat ++ xs ++ x.rs.drop ((x.n % 64#64).toNat + xs.length)).length = 64 := by rw [List.length_append, List.length_append, List.length_take, List.length_drop, x64]; omega
    obtain ⟨rs1, hrs1⟩ : ∃ rs1, x.rs.take (x.n % 64#64).toNat ++ xs ++ x.rs.drop ((x.n % 64#64).toNat + xs.length) = rs1 := ⟨_, rfl⟩
    rw [hrs1] at x64 ⊢
    refine lx_assign rfl rfl rfl ?_
    refine lx_nil ?_
    refine xs_plain (E := EE []) ?_
    refine lx_move rfl rfl rfl ?_
    refine lx_nilc rfl rfl rfl ?_
    refine lx_fak 72 rfl Tryd.underlying41 rfl Tryd.sizeOf39 (by decide) rfl rfl rfl ?_
    refine lx_loadl 0 rfl rfl (hc_72 x8 x64) Tryd.isAgg39 rfl rfl ?_
    refine lx_move rfl rfl rfl ?_
    refine lx_conv rfl rfl (fun _ => conv_i_u64 Tryd.underlying3 Tryd.underlying39 _) rfl rfl ?_
    refine lx_bin rfl rfl (fun _ => rfl) (fun _ => bin_add_u64 _ _ _) rfl rfl ?_
    refine lx_nilc rfl rfl rfl ?_
    refine lx_fak 72 rfl Tryd.underlying41 rfl Tryd.sizeOf39 (by decide) rfl rfl rfl ?_
    refine lx_store 0 hGF rfl rfl rfl Tryd.sizeOf39 rfl (by rw [hc_len x8 x64]; decide) rfl ?_
    rw [set_72 x8 x64]
    refine lx_nil ?_
    refine xs_plain (E := EE []) ?_
    refine lx_move rfl rfl rfl ?_
    refine lx_move rfl rfl rfl ?_
    refine lx_slsl (l := xs.length) (h' := (bs.drop x.c).length) rfl Tryd.underlying22 Tryd.sizeOf5 rfl rfl ⟨by omega, x.hcap⟩ rfl rfl ?_
    refine lx_assign rfl rfl rfl ?_
    refine lx_nil ?_
    refine xs_plain (E := EE []) ?_
    refine lx_move rfl rfl rfl ?_
    refine lx_nilc rfl rfl rfl ?_
    refine lx_fak 72 rfl Tryd.underlying41 rfl Tryd.sizeOf39 (by decide) rfl rfl rfl ?_
    refine lx_loadl 0 rfl rfl (hc_72 x8 x64) Tryd.isAgg39 rfl rfl ?_
    refine lx_bin rfl rfl (fun _ => rfl) (fun _ => bin_rem_u64 _ _ _ (by decide)) rfl rfl ?_
    refine lx_bin rfl rfl (fun _ => rfl) (fun _ => bin_eql_u64 _ _ _) rfl rfl ?_
    refine lx_nil ?_
    refine x_if rfl (fun hc => ?_) (fun hc => ?_)
    · have hfl := hfl0.1 hc
      refine xs_drawn (E := EE []) mixed (by kernel_rfl) (by kernel_rfl) (by kernel_rfl) ?_
      refine lx_move rfl rfl rfl ?_
      refine lx_loada 4 rfl rfl Tryd.isAgg37 Tryd.sizeOf37 (by rw [List.length_map, rch_len x.hi.st8]) rfl rfl ?_
      refine lx_move rfl rfl rfl ?_
      refine lx_nilc rfl rfl rfl ?_
      refine lx_fak 8 rfl Tryd.underlying41 rfl Tryd.sizeOf38 (by decide) rfl rfl rfl ?_
      refine lx_loadp 0 rfl rfl Tryd.isAgg38 Tryd.sizeOf38 (by rw [List.length_map, x64]) (hc_rs x8) rfl rfl ?_
      refine lx_call rfl rfl ent30 (comp_pure _ _ (rch_len x.hi.st8) x64) rfl rfl ?_
      refine lx_nilc rfl rfl rfl ?_
      refine lx_fak 0 rfl Tryd.underlying41 rfl Tryd.sizeOf37 (by decide) rfl rfl rfl ?_
      refine lx_storer 0 hGF rfl rfl rfl Tryd.sizeOf37 (by rw [List.length_map, comp_len]) (one_u32 _) (by rw [hc_len x8 x64, List.length_map, comp_len]; decide) rfl ?_
      rw [lay_st x8 (comp_len _ _)]
      have x8 := comp_len (rch x.st x.n) rs1
      refine lx_nil ?_
      refine x_plain (E := EE []) ?_
      refine lx_move rfl rfl rfl ?_
      refine lx_buildz zv38 Tryd.underlying38 Tryd.sizeOf5 rfl rfl ?_
      refine lx_nilc rfl rfl rfl ?_
      refine lx_fak 8 rfl Tryd.underlying41 rfl Tryd.sizeOf38 (by decide) rfl rfl rfl ?_
      refine lx_storer 0 hGF rfl rfl rfl Tryd.sizeOf38 (by rw [List.length_map, List.length_replicate]) (one_u8 _) (by rw [hc_len x8 x64, List.length_map, List.length_replicate]; decide) rfl ?_
      rw [lay_rs x8 x64 List.length_replicate]
      refine lx_nil ?_
      repeat (refine kblk_n ?_)
      refine kseq_n ?_
      exact ⟨rfl, ⟨x.c + xs.length, comp (rch x.st x.n) rs1, List.replicate 64 0#8, x.n + BitVec.ofInt 64 xs.length, if x.cap = xs.length then x.a else x.a.map (·.add (xs.length * 1)), x.cap - xs.length, by omega, (by rw [hxt, ← hrs1, hmod, x.hi.rch]; exact x.hi.fill xs hfl hlen2), hb3, hc3, hn3⟩, _, by show bs.length - (x.c + xs.length) < bs.length - x.c; omega, rfl, ⟨rfl, congrArg (fun k => some (Value.slice (if x.cap = xs.length then x.a else x.a.map (·.add (xs.length * 1))) k (x.cap - xs.length))) hdn, trivial⟩, ⟨rfl, trivial⟩⟩
    · have hfl := hfl0.2 hc
      refine x_skip ?_
      repeat (refine kblk_n ?_)
      refine kseq_n ?_
      exact ⟨rfl, ⟨x.c + xs.length, x.st, rs1, x.n + BitVec.ofInt 64 xs.length, if x.cap = xs.length then x.a else x.a.map (·.add (xs.length * 1)), x.cap - xs.length, by omega, (by rw [hxt, ← hrs1, hmod]; exact x.hi.part xs hfl hlen2), hb3, hc3, hn3⟩, _, by show bs.length - (x.c + xs.length) < bs.length - x.c; omega, rfl, ⟨rfl, congrArg (fun k => some (Value.slice (if x.cap = xs.length then x.a else x.a.map (·.add (xs.length * 1))) k (x.cap - xs.length))) hdn, trivial⟩, ⟨rfl, trivial⟩⟩
  · simp only [decide_eq_false_iff_not] at hc
    refine x_exit ?_
    have hall : bs.take x.c = bs := List.take_of_length_le (by have := x.hc; omega)
    repeat (refine kseq_x ?_)
    refine kblk_x ?_
    exact kend_none rfl (fun w' hw' => ⟨rfl, hp_mod hw', x.st, x.rs, x.n, by have := x.hi; rw [hall] at this; exact this, (hw'.own 0 _ _ _ rfl).1⟩)
end Go.Proofs.YtkfnadpdcgcffaaDoor
