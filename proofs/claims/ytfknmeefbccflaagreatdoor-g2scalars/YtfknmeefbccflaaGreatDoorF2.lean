/-
  The walks of the bits of numbers.
-/
import Derived.Test.YtfknmeefbccflaaGreatDoorX6
namespace Go.Proofs.YtfknmeefbccflaaGreatDoor
open Go.RowKit
set_option maxRecDepth 100000
set_option maxHeartbeats 1000000
theorem ent130 : Enters Tryz.prog 130 := fun _ _ => by kernel_rfl
theorem ent148 : Enters Tryz.prog 148 := fun _ _ => by kernel_rfl
theorem bits_calls (a : List (BitVec 64)) (_ha : a.length = 6) (w : World) (hw : Gt w) : Calls Tryz.prog 130 [.agg ((a).map U64).toArray].toArray w (fun e w' => ∃ b1, e = .returned (.func (.func 148) #[] #[.pointer (some ⟨b1, 0, none⟩)]) ∧ Grow w w' ∧ w.heap.size ≤ b1 ∧ OwnB w' b1 (a.map U64) 26) := by
  have hGF : BOk Gt (pl w) := gt_low.plain hw
  refine calls_of_X (G := Gt) Tryz.func130 rfl rfl (Hp (pl w) []) (hp_refl (pl w) trivial rides_true) (good_hp hGF) ?_
  refine xs_plain (E := EE []) ?_
  refine lx_boxr 1 hGF rfl rfl rfl ?_
  intro b1
  refine lx_assign rfl rfl rfl ?_
  refine lx_nil ?_
  refine xs_plain (E := EE []) ?_
  refine lx_func rfl rfl rfl rfl ?_
  refine lx_assign rfl rfl rfl ?_
  refine lx_nil ?_
  refine x_ret ?_
  repeat (first | refine kseq_ret ?_ | refine kblk_ret ?_)
  exact kret_tmp rfl rfl (fun w hw => ⟨b1, rfl, hp_below hw, (hw.own 1 b1 _ _ rfl).2.elim id False.elim, (hw.own 1 b1 _ _ rfl).1⟩)
theorem bits_seq (bb : Nat) (a : List (BitVec 64)) (ha : a.length = 6) : SeqOk Tryz.prog Gt 148 [.pointer (some ⟨bb, 0, none⟩)] (BT a) (fun W => W.rangeAt bb 0 (a.map U64)) := by
  intro l J Jx hJ hJx hRd hGx hY w hj
  have okJ : ∀ k, BOk Gt (Bi w (fun Y => J Y k)) := fun k => ⟨fun _ _ _ h => (hRd _ _ _ h.rid).1, hJ k⟩
  have okX : ∀ k, BOk Gt (Bi w (fun Y => Jx Y k)) := fun k => ⟨fun _ _ _ h => hGx _ _ _ h.rid, hJx k⟩
  refine calls_of_XM (G := Gt) Tryz.func148 rfl rfl (Hp (Bi w (fun Y => J Y 0)) []) (hp_refl (Bi w _) hj (hJ 0)) (good_hp (okJ 0)) ?_
  refine xs_plain (E := EE [146]) ?_
  refine lx_box 2 (okJ _) rfl rfl rfl ?_
  intro b2
  refine lx_nil ?_
  refine xs_plain (E := EE [146]) ?_
  refine lx_slarr1 (l := 0) (h' := 6) rfl Tryz.underlying26 Tryz.sizeOf25 rfl rfl (by omega) (by omega) rfl rfl ?_
  refine lx_callE rfl rfl ent146 rfl rfl (fun w' hw' => (digits_calls _ rfl w' ((okJ _).g _ _ _ hw')).mono fun e w'' h => ?_)
  obtain ⟨c2, rfl, hgr, h2, hc2⟩ := h
  refine ⟨_, _, rfl, good_hp (okJ _), hw'.news (hJ _) hgr [(33, c2, [.slice (some ⟨bb, 0, none⟩) 6 6], 138)] ?_ inj_one, ?_⟩
  · intro n' b' c' t' hl
    rcases lkB_cons hl with ⟨_, e⟩ | ⟨_, hl⟩
    · cases e; exact ⟨h2, hc2⟩
    · cases hl
  clear hw' hgr h2 hc2
  refine lx_nil ?_
  refine x_block ?_
  refine x_range (fun k => (Bi w (fun Y => J Y (ones a k).length))) (fun _ k => Bi w (fun Y => Jx Y (ones a k).length)) (fun _ => okJ _) (fun _ _ => okX _) (fun _ => rfl) (fun _ _ => rfl) rfl rfl ent151 (digits_seq c2 bb a 6 (by decide) ha) (fun x hx => by obtain ⟨k, hk, rfl⟩ := List.mem_map.1 hx; rfl) rfl (fun _ => [(2, b2, [.func (.yield l) #[] #[]], 134), (33, c2, [.slice (some ⟨bb, 0, none⟩) 6 6], 138)]) (fun c _ _ => c = .ret) ⟨rfl, rfl, trivial⟩ (fun k Y w' h => ⟨hp_cell (n := 33) rfl rfl w' h, (hRd _ _ _ h.rid).2⟩) ?_ ?_ ?_
  · intro k x hx R hR
    obtain ⟨hk, rfl⟩ := DG_at a 6 k x hx
    rw [show 64 * 6 - 1 - k = 383 - k from rfl]
    refine xs_plain (E := EE [146]) ?_
    refine lx_assign rfl rfl rfl ?_
    refine lx_nil ?_
    refine x_plain (E := EE [146]) ?_
    refine lx_assign rfl rfl rfl ?_
    refine lx_nil ?_
    refine ⟨rfl, _, rfl, ?_⟩
    rcases Decidable.em (dig a (383 - k) = 1) with h1 | h1
    · skip
      refine x_block ?_
      refine xs_plain (E := EE [146]) ?_
      refine lx_move rfl rfl rfl ?_
      refine lx_bin (v := .bool true) rfl rfl (fun _ => rfl) (fun w => (bin_eql_u64 _ _ _).trans (congrArg (fun b => Result.ok (Value.bool b) w) (beq_iff_eq.2 h1))) rfl rfl ?_
      refine lx_move rfl rfl rfl ?_
      refine lx_loadl 2 rfl rfl rfl Tryz.isAgg134 rfl rfl ?_
      refine lx_move rfl rfl rfl ?_
      refine lx_yield ((hY.b (k := (ones a k).length) (BT_at a k (by omega) h1) w).br R.l R.D R.rb R.Y R.W) (hR (Bi w (fun Y => J Y ((ones a k).length + 1))) rfl (okJ _)).2.1 (hR (Bi w (fun Y => Jx Y ((ones a k).length + 1))) rfl (okX _)).2.1 rfl rfl rfl rfl rfl ?_ ?_
      · skip
        refine lx_un rfl (fun _ => un_not _) rfl rfl ?_
        refine lx_pick rfl rfl rfl rfl rfl ?_
        refine lx_nil ?_
        refine x_false rfl ?_
        refine x_skip ?_
        show ∃ L', _ = Hp (R.b (Bi w (fun Y => J Y (ones a (k + 1)).length))) L' ∧ SubB L' [(2, b2, [.func (.yield l) #[] #[]], 134), (33, c2, [.slice (some ⟨bb, 0, none⟩) 6 6], 138)]
        rw [ones_yes a k h1]
        exact ⟨_, rfl, ⟨rfl, rfl, trivial⟩⟩
      · skip
        refine lx_un rfl (fun _ => un_not _) rfl rfl ?_
        refine lx_pick rfl rfl rfl rfl rfl ?_
        refine lx_nil ?_
        refine x_true rfl ?_
        refine x_ret ?_
        repeat (first | refine kseq_ret ?_ | refine kblk_ret ?_)
        show ∃ L', _ = Hp (R.b (Bi w (fun Y => Jx Y (ones a (k + 1)).length))) L' ∧ Code.ret = Code.ret
        rw [ones_yes a k h1]
        exact ⟨_, rfl, rfl⟩
    · skip
      refine x_block ?_
      refine xs_plain (E := EE [146, 3000000]) ?_
      refine lx_move rfl rfl rfl ?_
      refine lx_bin (v := .bool false) rfl rfl (fun _ => rfl) (fun w => (bin_eql_u64 _ _ _).trans (congrArg (fun b => Result.ok (Value.bool b) w) (beq_eq_false_iff_ne.2 h1))) rfl rfl ?_
      refine lx_move rfl rfl rfl ?_
      refine lx_skip rfl rfl rfl ?_
      refine lx_skip rfl rfl rfl ?_
      refine lx_skip rfl rfl rfl ?_
      refine lx_skip rfl rfl rfl ?_
      refine lx_pick rfl rfl rfl rfl rfl ?_
      refine lx_nil ?_
      refine x_false rfl ?_
      refine x_skip ?_
      show ∃ L', _ = Hp (R.b (Bi w (fun Y => J Y (ones a (k + 1)).length))) L' ∧ SubB L' [(2, b2, [.func (.yield l) #[] #[]], 134), (33, c2, [.slice (some ⟨bb, 0, none⟩) 6 6], 138)]
      rw [ones_no a k h1]
      exact ⟨_, rfl, ⟨rfl, rfl, trivial⟩⟩
  · intro D _
    refine kretM_1 (.inr rfl) (hJ _) (kret_none rfl (fun w hw => ⟨⟨_, rfl⟩, .inl ?_⟩))
    have := drop_yof (hJ _) hw.rid
    rw [DG_len] at this
    rw [BT_len]
    exact this
  · intro D c j L' _ hc
    subst hc
    exact kretM_1 (.inl rfl) (hJx _) (kret_none rfl (fun w hw => ⟨⟨_, rfl⟩, .inr ⟨_, drop_yof (hJx _) hw.rid⟩⟩))
end Go.Proofs.YtfknmeefbccflaaGreatDoor
