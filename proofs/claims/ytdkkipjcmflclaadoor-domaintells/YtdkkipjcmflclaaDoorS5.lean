/-
  The walks of sha.mix and sha.Sum.
-/
import Derived.Test.YtdkkipjcmflclaaDoorS4
namespace Go.Proofs.YtdkkipjcmflclaaDoor
open Go.RowKit
set_option maxRecDepth 100000
namespace Sh
def mixK (st : List (BitVec 32)) (bls : List (List (BitVec 8))) : Nat → List (BitVec 32)
  | 0 => st
  | k + 1 => comp (mixK st bls k) (bls.getD k [])
theorem comp_len (st : List (BitVec 32)) (bl : List (BitVec 8)) : (comp st bl).length = 8 := rfl
theorem mixK_len (st : List (BitVec 32)) (bls : List (List (BitVec 8))) (h : st.length = 8) : ∀ k, (mixK st bls k).length = 8
  | 0 => h
  | _ + 1 => comp_len _ _

theorem mix_calls (st : List (BitVec 32)) (hs : st.length = 8) (gf : Nat) (caps : List Value) (bls : List (List (BitVec 8))) (hb : ∀ bl ∈ bls, bl.length = 64) (Rd : Cls) (he : Enters Tryd.prog gf) (hseq : SeqOk Tryd.prog Gt gf caps (bls.map enc) Rd) (w : World) (hw : Gt w) (hRs : ∀ w', Grow w w' → Rd w') :
    Calls Tryd.prog 50 [.agg (st.map U32).toArray, .func (.func gf) #[] caps.toArray].toArray w (fun e w' => e = .returned (.agg ((mixK st bls bls.length).map U32).toArray) ∧ Grow w w') := by
  have hGF : BOk Gt (pl w) := gt_low.plain hw
  refine calls_of_XM (G := Gt) Tryd.func50 rfl rfl (Hp (pl w) []) (hp_refl (pl w) trivial rides_true) (good_hp hGF) ?_
  refine xs_plain (E := EE []) ?_
  refine lx_boxr 2 hGF rfl rfl rfl ?_
  intro b2
  refine lx_allocr 4 hGF zv50 rfl rfl ?_
  intro b4
  refine lx_nil ?_
  refine x_seq ?_
  refine xs_plain (E := EE []) ?_
  refine lx_move rfl rfl rfl ?_
  refine lx_nil ?_
  refine x_block ?_
  refine x_range (fun _ => pl w) (fun _ _ => pl w) (fun _ => hGF) (fun _ _ => hGF) (fun _ => rfl) (fun _ _ => rfl) rfl rfl he hseq (by simp [enc]) rfl (fun k => [(2, b2, (mixK st bls k).map U32, 50), (4, b4, (List.replicate 8 0#32).map U32, 50)]) (fun _ _ _ => False) ⟨rfl, rfl, trivial⟩ (fun _ _ w' h => hRs w' (h.below (fun _ h => h))) ?_ ?_ (fun _ _ _ _ _ h => h.elim)
  · intro k x hx R hR
    obtain ⟨hk, rfl⟩ : k < bls.length ∧ enc (bls.getD k []) = x := by
      rw [List.getElem?_map] at hx
      rcases Nat.lt_or_ge k bls.length with h | h
      · simp [h] at hx; exact ⟨h, by simpa [h] using hx⟩
      · simp [h] at hx
    have hb64 : (bls.getD k []).length = 64 := hb _ (by rw [show bls.getD k [] = bls[k] from by simp [hk]]; exact List.getElem_mem hk)
    refine x_plain (E := EE []) ?_
    refine lx_allocr 5 (hR (pl w) rfl hGF).1 zv85 rfl rfl ?_
    intro b5
    refine lx_storea 5 (hR (pl w) rfl hGF).1 rfl rfl rfl Tryd.sizeOf85 (by rw [List.length_map, hb64]) (by rw [List.length_map, List.length_replicate]) (one_u8 _) rfl ?_
    refine lx_nil ?_
    refine ⟨rfl, _, rfl, ?_⟩
    refine x_block ?_
    refine x_plain (E := EE []) ?_
    refine lx_loada 2 rfl rfl Tryd.isAgg50 Tryd.sizeOf50 (by rw [List.length_map, mixK_len st bls hs]) rfl rfl ?_
    refine lx_loada 5 rfl rfl Tryd.isAgg85 Tryd.sizeOf85 (by rw [List.length_map, hb64]) rfl rfl ?_
    refine lx_call rfl rfl ent53 (comp_pure _ _ (mixK_len _ _ hs _) hb64) rfl rfl ?_
    refine lx_storea 2 (hR (pl w) rfl hGF).2.1 rfl rfl rfl Tryd.sizeOf50 (by rw [List.length_map, comp_len]) (by rw [List.length_map, mixK_len st bls hs]) (one_u32 _) rfl ?_
    refine lx_nil ?_
    exact ⟨_, rfl, ⟨rfl, rfl, trivial⟩⟩
  · intro D hD
    refine xs_plain (E := EE []) ?_
    refine lx_loada 2 rfl rfl Tryd.isAgg50 Tryd.sizeOf50 (by rw [List.length_map, mixK_len st bls hs]) rfl rfl ?_
    refine lx_storea 4 hD rfl rfl rfl Tryd.sizeOf50 (by rw [List.length_map, mixK_len st bls hs]) (by rw [List.length_map, List.length_replicate]) (one_u32 _) rfl ?_
    refine lx_nil ?_
    refine x_ret ?_
    repeat (first | refine kseq_ret ?_ | refine kblk_ret ?_)
    refine kretM_1 (.inl rfl) rides_true (kret_own 4 rfl rfl rfl Tryd.isAgg50 Tryd.sizeOf50 (by rw [List.length_map, mixK_len st bls hs]) (fun w hw => ⟨?_, hp_below hw⟩))
    rw [List.length_map]
/-- SHA-256. -/
def SHA (bs : List (BitVec 8)) : List (BitVec 8) := DG (mixK IV (blks bs) (blks bs).length) 8
theorem SHA_len (bs : List (BitVec 8)) : (SHA bs).length = 32 := DG_len _ 8
theorem inj_one {n : Nat} {b1 : Nat} {c1 : List Value} {t1 : TypeId} : ∀ i j b c t c' t', lkB [(n, b1, c1, t1)] i = some (b, c, t) → lkB [(n, b1, c1, t1)] j = some (b, c', t') → i = j := by
  intro i j b c t c' t' h1 h2
  rcases lkB_cons h1 with ⟨e1, x1⟩ | ⟨_, h1⟩
  · rcases lkB_cons h2 with ⟨e2, x2⟩ | ⟨_, h2⟩
    · exact e1.trans e2.symm
    · cases h2
  · cases h1
theorem sum_calls (a : Option Addr) (cap : Nat) (bs : List (BitVec 8)) (hcap : bs.length ≤ cap) (w : World) (hw : Gt w) (hby : BytesAt w a bs) :
    Calls Tryd.prog 48 [.slice a bs.length cap].toArray w (fun e w' => e = .returned (.agg ((SHA bs).map U8).toArray) ∧ Grow w w') := by
  have hGF : BOk Gt (pl w) := gt_low.plain hw
  refine calls_of_X (G := Gt) Tryd.func48 rfl rfl (Hp (pl w) []) (hp_refl (pl w) trivial rides_true) (good_hp hGF) ?_
  refine xs_plain (E := EE [50, 52]) ?_
  refine lx_allocr 2 hGF zv22 rfl rfl ?_
  intro b2
  refine lx_nil ?_
  refine xs_plain (E := EE [50, 52]) ?_
  refine lx_call rfl rfl ent51 (start_pure) rfl rfl ?_
  refine lx_move rfl rfl rfl ?_
  refine lx_callE rfl rfl ent52 rfl rfl (fun w' hw' => (blocks_calls _ rfl w' (hGF.g _ _ _ hw')).mono fun e w'' h => ?_)
  obtain ⟨c1, rfl, hgr, h1, hc1⟩ := h
  refine ⟨_, _, rfl, good_hp hGF, hw'.news rides_true hgr [(26, c1, [.slice a bs.length cap], 39)] ?_ ?_, ?_⟩
  · intro n b c t hl
    rcases lkB_cons hl with ⟨_, e⟩ | ⟨_, hl⟩
    · cases e; exact ⟨h1, hc1⟩
    · cases hl
  · exact inj_one
  refine lx_callE rfl rfl ent50 rfl rfl (fun w' hw' => (mix_calls IV rfl 54 [.pointer (some ⟨c1, 0, none⟩)] (blks bs) (blks_len bs) (Rd33 c1 a cap bs) ent54 (blocks_seq c1 a cap bs hcap) w' (hGF.g _ _ _ hw') ?_).mono fun e w'' h => ?_)
  · intro w3 hg3
    have hx := hw'.grow rides_true hg3
    exact ⟨hp_cell (n := 26) rfl rfl w3 hx, hby.grow (hx.below (fun _ h => h))⟩
  obtain ⟨rfl, hgr⟩ := h
  refine ⟨_, _, rfl, good_hp hGF, hw'.grow rides_true hgr, ?_⟩
  refine lx_call rfl rfl ent49 (digest_pure _ (mixK_len _ _ rfl _)) rfl rfl ?_
  refine lx_storea 2 hGF rfl rfl rfl Tryd.sizeOf22 (by rw [List.length_map, DG_len]) (by rw [List.length_map, List.length_replicate]) (one_u8 _) rfl ?_
  refine lx_nil ?_
  refine x_ret ?_
  repeat (first | refine kseq_ret ?_ | refine kblk_ret ?_)
  exact kret_own 2 rfl rfl rfl Tryd.isAgg22 Tryd.sizeOf22 (by rw [List.length_map, DG_len]) (fun w hw => ⟨rfl, hp_below hw⟩)
end Sh
end Go.Proofs.YtdkkipjcmflclaaDoor
