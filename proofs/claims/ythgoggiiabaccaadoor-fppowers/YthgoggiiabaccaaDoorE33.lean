/-
  The engine, part 33: reads of what no step of a region can turn; the base moved. Nothing here names a program.
-/
import Derived.Test.YthgoggiiabaccaaDoorE32
namespace Go.Proofs.YthgoggiiabaccaaDoor
open Go.RowKit
set_option maxRecDepth 100000
section
variable {P : Program} {G : Cls} {ro : Option Nat} {md : Region.Mode} {ops : Array Oper} {N : Nat} {ds : List Deferred} {E : Oper → Bool} {Q : Exit → Act → World → Prop}
theorem cls_G {o : Oper} {C : Cls} {w : World} (h : clsOf G o C w) : G w := by
  unfold clsOf at h
  split at h
  · exact h.2
  · exact h
/-- An operation whose value hangs on the base class alone may be taken first, whatever turns memory. -/
theorem tree_firstG {i : Nat} {oi : Oper} {v : Value} (hi : ops[i]? = some oi) (hEi : E oi = false) (hsel : ∀ (j : Nat) (o : Oper) cs b, ops[j]? = some o → o.op ≠ .select cs b)
    (hdef : ∀ (j : Nat) (o : Oper) c, ops[j]? = some o → o.op ≠ .defer c) :
    ∀ (f : Nat) (listed : Array Bool) (a : Act) (C : Cls), Closed md ops listed →
      (∀ j oj, ops[j]? = some oj → j ≠ i → listed.getD j true = false → (∀ e ∈ oj.after, Region.binds md e = true → e.on ≠ i) → oi.apart ops oj = true) →
      i ∈ Region.ready md ops listed → YieldsW P ro ops G oi v a →
      TreeC P G ro md ops Q E f (listed.setIfInBounds i true) (a.put oi.dst v) C → TreeC P G ro md ops Q E (f + 1) listed a C := by
  intro f
  induction f with
  | zero =>
    intro listed a C _ _ hr hy H
    refine ⟨fun h => (by rw [h] at hr; cases hr), fun j hj o ho => ?_⟩
    by_cases hji : j = i
    · subst hji
      cases hi.symm.trans ho
      rw [hEi]
      exact ⟨v, hy.mono fun w0 h0 => cls_G h0, H⟩
    · have := ready_mono hj hji
      rw [H.1] at this
      cases this
  | succ f ih =>
    intro listed a C hc hfree hr hy H
    refine ⟨fun h => (by rw [h] at hr; cases hr), fun j hj oj hoj => ?_⟩
    by_cases hji : j = i
    · subst hji
      cases hi.symm.trans hoj
      rw [hEi]
      exact ⟨v, hy.mono fun w0 h0 => cls_G h0, H⟩
    have h1 := H.2 j (ready_mono hj hji) oj hoj
    obtain ⟨hjun, _, hoj', hall⟩ := mem_ready.1 hj
    cases hoj.symm.trans hoj'
    have hiun := getD_unlisted (mem_ready.1 hr).1
    have hnot : ∀ e ∈ oj.after, Region.binds md e = true → e.on ≠ i := fun e he hb heq => by
      have h1 := hall e he hb
      rw [heq, hiun] at h1; cases h1
    have hap := hfree j oj hoj hji hjun hnot
    have hfree' : ∀ k ok, ops[k]? = some ok → k ≠ i → (listed.setIfInBounds j true).getD k true = false →
        (∀ e ∈ ok.after, Region.binds md e = true → e.on ≠ i) → oi.apart ops ok = true := fun k ok hk hki hun hno => by
      refine hfree k ok hk hki ?_ hno
      by_cases hjk : j = k
      · subst hjk; exact hjun
      · rw [getD_set_ne true hjk] at hun; exact hun
    cases hE : E oj with
    | true =>
      rw [hE] at h1
      intro w hw
      obtain ⟨hwant, hwp⟩ := h1 w hw
      obtain ⟨p1, p2, p3⟩ := Oper.apart_spec hap
      refine ⟨by rw [wanted_put oj a oi.dst v p1] at hwant; exact hwant, ?_⟩
      refine Oper.wpIn_mono (fun a' w' hk => ?_) (wpIn_put hap (fun cs b => hsel i oi cs b hi) (fun cs b => hsel j oj cs b hoj) (fun c => hdef i oi c hi) (fun c => hdef j oj c hoj) hwp)
      obtain ⟨hsame, C', hS', hw', hgr, hk⟩ := hk
      refine ⟨C', hS', hw', hgr, ih (listed.setIfInBounds j true) a' C' (hc.set hj) hfree' (ready_mono hr (Ne.symm hji)) (hsame.yields hy) ?_⟩
      rw [Array.setIfInBounds_comm _ _ hji]; exact hk
    | false =>
      rw [hE] at h1
      obtain ⟨u, hyu, hk⟩ := h1
      obtain ⟨p1, p2, p3⟩ := Oper.apart_spec hap
      have hsi := fun cs b => hsel i oi cs b hi
      have hsj := fun cs b => hsel j oj cs b hoj
      have hdi := fun c => hdef i oi c hi
      have hdj := fun c => hdef j oj c hoj
      have s1 : SameAt ro ops oj (a.put oi.dst v) a := ⟨(semAt_put hsj hdj a oi.dst v p1).symm, (wanted_put oj a oi.dst v p1).symm⟩
      have s2 : SameAt ro ops oi a (a.put oj.dst u) := ⟨semAt_put hsi hdi a oj.dst u p3, wanted_put oi a oj.dst u p3⟩
      refine ⟨u, s1.yields hyu, ih (listed.setIfInBounds j true) _ C (hc.set hj) hfree' (ready_mono hr (Ne.symm hji)) (s2.yields hy) ?_⟩
      rw [Array.setIfInBounds_comm _ _ hji, ← Act.put_comm a v u p2]
      exact hk

end
section
variable {P : Program} {G : Cls} {ro : Option Nat} {N : Nat} {ds : List Deferred} {l : List Oper} {E : Oper → Bool} {K : KK} {F : Fr} {C : Cls}
theorem tr_read {m : Nat} {σ : List Nat} (k : Nat) (o : Oper) {v : Value} (ho : l.toArray[k]? = some o) (hE : E o = false) (hr : (Region.ready .any l.toArray (lst0 l σ)).contains k = true) (hf : Region.free .any l.toArray (lst0 l σ) k = true) (hd : fitsD N o.dst = true)
    (hy : ∀ a, Has N ds F a → YieldsW P ro l.toArray G o v a) (h : TR P G ro N ds l E K m (σ ++ [k]) (putF o.dst v F) C) : TR P G ro N ds l E K (m + 1) σ F C := fun hsel hdef hc hS a ha => by
  have hr' : k ∈ Region.ready .any l.toArray (lst0 l σ) := by simpa using hr
  refine tree_firstG ho hE (Region.noSelect_spec hsel) (noDefer_spec hdef) m _ a C hc (Region.free_spec ho hf) hr' (hy a ha) ?_
  have e : lst0 l (σ ++ [k]) = (lst0 l σ).setIfInBounds k true := lst0_app σ [k]
  have hc' := hc.set hr'
  rw [← e] at hc' ⊢
  exact h hsel hdef hc' hS _ (ha.putF hd v)
/-- A whole variable read, that the base class knows. -/
theorem yields_row {o : Oper} {t : TypeId} {x : Operand} {b n : Nat} {cs : List Value} (hop : o.op = .load t x) (hx : evF F x = some (.pointer (some ⟨b, 0, none⟩))) (hag : ∀ w, (isAgg t).run P w = .ok true w) (hs : ∀ w, (sizeOf t).run P w = .ok n w) (hn : cs.length = n) (hc : ∀ w, G w → w.rangeAt b 0 cs)
    (hw : wantF l.toArray F o = some true) : ∀ a, Has N ds F a → YieldsW P ro l.toArray G o (.agg cs.toArray) a := fun a ha => .inl ⟨ha.want hw, fun w hG => .inl (by
  have hl := run_loadCells_list (P := P) w ⟨b, 0, none⟩ cs (fun j v hv => by rw [Addr.add_mid]; exact hc w hG j v hv)
  rw [hn] at hl
  rw [Oper.semAt_eq _ _ _ (fun _ h => by rw [hop] at h; cases h)]
  unfold execOp
  rw [hop]
  simp only [ha.ev hx]
  simp [Instr.loadAt, Instr.sureAddr, loadVar, hag, hs, hl])⟩
/-- From here on all that lies in memory is old. -/
theorem x_here {G' : Cls} {c : Code} (hle : ∀ w, G' w → G w) (hG : ∀ w1, C w1 → BOk G' (pl w1)) (h : ∀ w1, C w1 → X P G' ro N ds c F (Hp (pl w1) []) K) : X P G ro N ds c F C K := fun _ a w ha hw =>
  wpIn_mono (h w hw (good_hp (hG w hw)) a w ha (hp_refl (pl w) trivial rides_true)) fun _ _ _ ⟨ds', F', C', g', ha', hw', hk⟩ => ⟨ds', F', C', ⟨g'.1, fun w h => hle w (g'.2 w h)⟩, ha', hw', hk⟩
theorem x_base {G' : Cls} {c : Code} (hle : ∀ w, G' w → G w) (hS : Good G' C) (h : X P G' ro N ds c F C K) : X P G ro N ds c F C K := fun _ a w ha hw =>
  wpIn_mono (h hS a w ha hw) fun _ _ _ ⟨ds', F', C', g', ha', hw', hk⟩ => ⟨ds', F', C', ⟨g'.1, fun w h => hle w (g'.2 w h)⟩, ha', hw', hk⟩
theorem Pure.sub {G' : Cls} {f : FuncId} {vs : List Value} {v : Value} (h : Pure P G f vs v) (hle : ∀ w, G' w → G w) : Pure P G' f vs v := fun w hw => h w (hle w hw)
end
end Go.Proofs.YthgoggiiabaccaaDoor
