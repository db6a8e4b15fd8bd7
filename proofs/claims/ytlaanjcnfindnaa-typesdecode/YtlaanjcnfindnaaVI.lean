/-
  The document's decoder of bootstraps.
-/
import Derived.Test.YtlaanjcnfindnaaVH
namespace Go.Proofs.Ytlaanjcnfindnaa
open Go.RowKit
set_option maxRecDepth 100000
set_option maxHeartbeats 1000000

theorem ent22 : Enters Try.prog 22 := fun _ _ => by kernel_rfl
theorem ent26 : Enters Try.prog 26 := fun _ _ => by kernel_rfl
def Zs (n : Nat) : By := List.replicate n 0#8
def Bo0 : Bo := ⟨Hd0, ⟨[], none, 0, Z48⟩, Zs 160⟩
theorem zvBo (w : World) : (zeroValue 42).run Try.prog w = .ok (.agg Bo0.cs.toArray) w := (Try.zeroValue42 w).trans (by rfl)
theorem Bo0_len : Bo0.cs.length = 307 := by decide
theorem bldBo0 (w : World) : (Instr.build 42 #[]).run Try.prog w = .ok (.agg Bo0.cs.toArray) w := run_buildP (c := Bo0.cs) zvBo Try.underlying42 (ps := #[(0, 98), (98, 49), (147, 160)]) (fun w => by simp [Try.sizeOf26, Try.sizeOf31, Try.sizeOf32]) [] rfl w
theorem bldBo (h c : List Value) (hh : h.length = 98) (hc : c.length = 49) (w : World) : (Instr.build 42 #[(0, .agg h.toArray), (1, .agg c.toArray)]).run Try.prog w = .ok (.agg (h ++ (c ++ (Zs 160).map U8)).toArray) w :=
  run_buildP (c := [] ++ (Hd0.cs ++ (Co0 ++ (Zs 160).map U8))) (ps := #[(0, 98), (98, 49), (147, 160)]) zvBo Try.underlying42 (fun w => by simp [Try.sizeOf26, Try.sizeOf31, Try.sizeOf32]) [(0, .agg h.toArray), (1, .agg c.toArray)] (by
    rw [fill_app (pre := []) (old := Hd0.cs) (vs := h) rfl rfl (by rw [hh]; rfl), fill_app (pre := [] ++ h) (old := Co0) (vs := c) (by rw [List.nil_append, hh]; rfl) rfl (by rw [hc]; rfl)]
    simp [Instr.fill]) w
theorem bldRd (a : Option Addr) (n c : Nat) (w : World) : (Instr.build 84 #[(0, .slice a n c)]).run Try.prog w = .ok (.agg [.slice a n c, I 0].toArray) w :=
  run_buildP (c := [.slice none 0 0, I 0]) Try.zeroValue84 Try.underlying84 (mapM_two rfl rfl Try.sizeOf46 Try.sizeOf3) [(0, .slice a n c)] (by
    rw [fill_mid (vs := [.slice a n c]) (off := 0) (size := 1) rfl rfl rfl (by show 1 ≤ 2; decide)]
    rfl) w
/-- Roots read so far, noughts behind them. -/
def rts (bs : By) (o i n : Nat) : By := sub bs o (32 * i) ++ Zs (32 * (n - i))
theorem rts_0 (bs : By) (o n : Nat) : rts bs o 0 n = Zs (32 * n) := by simp [rts, sub]
theorem rts_n (bs : By) (o n : Nat) : rts bs o n n = sub bs o (32 * n) := by simp [rts, Zs]
theorem rts_len {bs : By} {o i n : Nat} (hi : i ≤ n) (h : o + 32 * n ≤ bs.length) : (rts bs o i n).length = 32 * n := by rw [rts, List.length_append, sub_len (by omega), Zs, List.length_replicate]; omega
theorem sub_add (bs : By) (o a b : Nat) : sub bs o (a + b) = sub bs o a ++ sub bs (o + a) b := by rw [sub, sub, sub, List.take_add, List.drop_drop]
/-- A root laid into its place. -/
theorem rts_lay {bs : By} {o i n p : Nat} {pre post : List Value} (hi : i < n) (h : o + 32 * n ≤ bs.length) (hp : pre.length = p) : lay (p + 32 * i) ((sub bs (o + 32 * i) 32).map U8) (pre ++ ((rts bs o i n).map U8 ++ post)) = pre ++ ((rts bs o (i + 1) n).map U8 ++ post) := by
  have e1 : rts bs o i n = sub bs o (32 * i) ++ (Zs 32 ++ Zs (32 * (n - (i + 1)))) := by
    rw [rts, Zs, Zs, Zs, List.replicate_append_replicate, show 32 + 32 * (n - (i + 1)) = 32 * (n - i) from by omega]
  have e2 : rts bs o (i + 1) n = sub bs o (32 * i) ++ (sub bs (o + 32 * i) 32 ++ Zs (32 * (n - (i + 1)))) := by
    rw [rts, Nat.mul_succ, sub_add, List.append_assoc]
  have l1 : (sub bs o (32 * i)).length = 32 * i := sub_len (by omega)
  have l2 : (sub bs (o + 32 * i) 32).length = 32 := sub_len (by omega)
  rw [lay_eq _ _ _ (by rw [e1]; simp [l1, l2, Zs]; omega), e1, e2]
  simp only [List.map_append, List.length_map, l2]
  have t1 : (pre ++ ((sub bs o (32 * i)).map U8 ++ ((Zs 32).map U8 ++ (Zs (32 * (n - (i + 1)))).map U8) ++ post)).take (p + 32 * i) = pre ++ (sub bs o (32 * i)).map U8 := by
    rw [show pre ++ ((sub bs o (32 * i)).map U8 ++ ((Zs 32).map U8 ++ (Zs (32 * (n - (i + 1)))).map U8) ++ post) = (pre ++ (sub bs o (32 * i)).map U8) ++ (((Zs 32).map U8 ++ (Zs (32 * (n - (i + 1)))).map U8) ++ post) from by simp]
    exact List.take_left' (by simp [hp, l1])
  have t2 : (pre ++ ((sub bs o (32 * i)).map U8 ++ ((Zs 32).map U8 ++ (Zs (32 * (n - (i + 1)))).map U8) ++ post)).drop (p + 32 * i + 32) = (Zs (32 * (n - (i + 1)))).map U8 ++ post := by
    rw [show pre ++ ((sub bs o (32 * i)).map U8 ++ ((Zs 32).map U8 ++ (Zs (32 * (n - (i + 1)))).map U8) ++ post) = ((pre ++ (sub bs o (32 * i)).map U8) ++ (Zs 32).map U8) ++ ((Zs (32 * (n - (i + 1)))).map U8 ++ post) from by simp]
    exact List.drop_left' (by simp [hp, l1, Zs]; omega)
  rw [t1, t2]
  simp
def boOf (bs : By) (m : Nat) (ka : Option Addr) (kc : Nat) : Bo := ⟨hdOf bs, ⟨keysOf (bs.drop 112) m, ka, kc, sub (bs.drop 112) (48 * m) 48⟩, sub bs (160 + 48 * m) 160⟩
theorem boOf_ok {bs : By} {m kc : Nat} {ka : Option Addr} (h : bs.length = sz1 m) (hk : m ≤ kc) : (boOf bs m ka kc).Ok := by
  unfold sz1 at h
  refine ⟨hdOf_ok (by omega), ⟨keysOf_all (by rw [List.length_drop]; omega), sub_len (by rw [List.length_drop]; omega), ?_⟩, sub_len (by omega)⟩
  show (keysOf (bs.drop 112) m).length ≤ kc
  rw [keysOf_len]; exact hk
theorem boOf_cs {bs : By} {m kc : Nat} {ka : Option Addr} : (boOf bs m ka kc).cs = (hdOf bs).cs ++ ((Value.slice ka m kc :: (sub (bs.drop 112) (48 * m) 48).map U8) ++ (sub bs (160 + 48 * m) 160).map U8) := by
  show (hdOf bs).cs ++ ((.slice ka (keysOf (bs.drop 112) m).length kc :: (sub (bs.drop 112) (48 * m) 48).map U8) ++ _) = _
  rw [keysOf_len]; rfl
theorem dbo_calls (n : Int) (m : Nat) (hm : szN n = m) (bs : By) (a : Option Addr) (cap : Nat) (hcap : bs.length ≤ cap) (w : World) (hw : Gt w) (hby : BytesAt w a bs) (hab : ∀ ad, a = some ad → ad.block < w.heap.size) : Calls Try.prog 22 [.slice a bs.length cap, I n].toArray w (fun e w' => Grow w w' ∧ (bs.length = sz1 m → ∃ ka kc, e = .returned (.tuple #[.agg (boOf bs m ka kc).cs.toArray, I 0]) ∧ SlW 29 48 w' ka kc m ((keysOf (bs.drop 112) m).flatten.map U8) ∧ ∀ k, Of ka k → w.heap.size ≤ k) ∧ (¬ bs.length = sz1 m → e = .returned (.tuple #[.agg Bo0.cs.toArray, I 170]))) := by
  have hm2 := szN_le n
  rw [hm] at hm2
  have hGF : BOk Gt (pl w) := gt_low.plain hw
  refine calls_of_X (G := Gt) Try.func22 rfl rfl (Hp (pl w) []) (hp_refl (pl w) trivial rides_true) (good_hp hGF) ?_
  refine xs_plain (E := EE []) ?_
  refine lx_allocr 4 hGF zvBo rfl rfl ?_
  intro b4
  refine lx_assign rfl rfl rfl ?_
  refine lx_nil ?_
  refine xs_plain (E := EE []) ?_
  refine lx_move rfl rfl rfl ?_
  refine lx_callC rfl rfl ent44 (fun w1 _ hG => siz_calls n w1 hG) rfl rfl ?_
  rw [hm]
  refine lx_assign rfl rfl rfl ?_
  refine lx_nil ?_
  refine x_seq ?_
  refine xs_plain (E := EE []) ?_
  refine lx_move rfl rfl rfl ?_
  refine lx_callC rfl rfl ent31 (fun w1 _ hG => szs_calls (m : Int) w1 hG) rfl rfl ?_
  rw [show szN (m : Int) = m from by rw [← hm]; exact szN_id n]
  refine lx_move rfl rfl rfl ?_
  refine lx_ext rfl rfl rfl rfl ?_
  refine lx_ext rfl rfl rfl rfl ?_
  refine lx_ext rfl rfl rfl rfl ?_
  refine lx_ext rfl rfl rfl rfl ?_
  refine lx_assign rfl rfl rfl ?_
  refine lx_assign rfl rfl rfl ?_
  refine lx_assign rfl rfl rfl ?_
  refine lx_assign rfl rfl rfl ?_
  refine lx_nil ?_
  refine xs_plain (E := EE []) ?_
  refine lx_move rfl rfl rfl ?_
  refine lx_len rfl (fun _ => len_slice Try.underlying46 _ _ _ _) rfl rfl ?_
  refine lx_move rfl rfl rfl ?_
  by_cases hlen : bs.length = sz1 m
  · skip
    have hsz : bs.length = 48 * m + 320 := hlen
    have hcl : ∀ {ka : Option Addr} {kc : Nat}, (Value.slice ka m kc :: (sub (bs.drop 112) (48 * m) 48).map U8).length = 49 := fun {ka kc} => by rw [List.length_cons, List.length_map, sub_len (by rw [List.length_drop]; omega)]
    refine lx_binB false rfl rfl (fun _ => rfl) (fun _ => bin_neq_i _ _ _) (by simp [hlen]) rfl rfl ?_
    refine lx_nil ?_
    refine x_false rfl ?_
    refine x_skip ?_
    refine xs_plain (E := EE []) ?_
    refine lx_move rfl rfl rfl ?_
    refine lx_build (ps := [(0, .tmp 27)]) (vs := [.slice a bs.length cap]) rfl (fun w => bldRd _ _ _ w) rfl rfl ?_
    refine lx_boxr 29 hGF rfl rfl rfl ?_
    intro b29
    refine lx_assign rfl rfl rfl ?_
    refine lx_nil ?_
    refine x_now0 gt_low (fun w3 hC g3 => ?_)
    obtain ⟨b, hbe⟩ : ∃ b, b = b29 := ⟨_, rfl⟩
    subst hbe
    have hM : MM (fun k => k = b) w w3 := grow_mm (hp_below hC)
    have hzb : w.heap.size ≤ b := (hC.own 29 _ _ _ rfl).2.elim id False.elim
    have hrd : RdAt 84 (fun k => k < w.heap.size) w3 b bs 0 := ⟨a, cap, (hC.own 29 _ _ _ rfl).1, hcap, hby.grow (hp_below hC), fun ad e => ⟨hab ad e, fun e2 => by have := hab ad e; omega⟩⟩
    obtain ⟨S, hS⟩ : ∃ S : Nat → Prop, S = fun k => k < w.heap.size := ⟨_, rfl⟩
    rw [← hS] at hrd
    have hSz : ∀ k, S k → k < w.heap.size := fun k hk => by rw [hS] at hk; exact hk
    have ho4 := (hC.own 4 _ _ _ rfl).1
    have hz4 : w.heap.size ≤ b4 := (hC.own 4 _ _ _ rfl).2.elim id False.elim
    have hn4 : b4 ≠ b := fun e => by subst e; exact absurd (hC.inj 4 29 _ _ _ _ _ rfl rfl) (by decide)
    have hGF := gt_low.plain g3
    clear hC
    refine xs_plain (E := EE [45, 46]) ?_
    refine lx_move rfl rfl rfl ?_
    refine lx_callW gt_low (M := fun k => k = b) (fun k _ => Nat.zero_le k) rfl rfl ent45 rfl rfl hGF (Q := fun w1 w2 v => v = .agg (hdOf bs).cs.toArray ∧ RdAt 84 S w2 b (bs.drop (112)) 0) (fun w1 h1 g1 => (rhd_calls S b bs (by omega) w1 g1 (hrd.grow h1).lt (hrd.grow h1) (fun k hk => by have := hSz k hk; have := hM.size; have := h1.size; omega)).mono fun r w2 ⟨v, q1, q2, q3, q4⟩ => ⟨v, q1, q2, q3, by exact q4⟩) (fun w31a w31 v hg31 hm31 gg31 hq => ?_)
    have hGF := gt_low.plain gg31
    have hM := (hM.trans (grow_mm hg31)).trans hm31
    have ho4 := hm31.own (ho4.grow hg31) hn4
    obtain ⟨rfl, hrd⟩ := hq
    clear hg31 hm31
    refine lx_move rfl rfl rfl ?_
    refine lx_move rfl rfl rfl ?_
    have hoX := ho4
    have hMX := hM
    have hrX := hrd
    refine lx_callW gt_low (M := fun k => k = b) (fun k _ => Nat.zero_le k) rfl rfl ent46 rfl rfl hGF (Q := fun w1 w2 v => (∃ ka kc, v = .agg (Value.slice ka m kc :: (sub (bs.drop 112) (48 * m) 48).map U8).toArray ∧ SlW 29 48 w2 ka kc m ((keysOf (bs.drop 112) m).flatten.map U8) ∧ ∀ k, Of ka k → w1.heap.size ≤ k) ∧ RdAt 84 S w2 b (bs.drop (160 + 48 * m)) 0) (fun w1 h1 g1 => (rco_calls S b (bs.drop 112) m (by omega) (by rw [List.length_drop]; omega) w1 g1 (hrd.grow h1).lt (hrd.grow h1) (fun k hk => by have := hSz k hk; have := hM.size; have := h1.size; omega)).mono fun r w2 ⟨v, q1, q2, q3, q4⟩ => ⟨v, q1, q2, q3, by rw [List.drop_drop, show 112 + (48 * m + 48) = 160 + 48 * m from by omega] at q4; exact q4⟩) (fun w34a w34 v hg34 hm34 gg34 hq => ?_)
    have hGF := gt_low.plain gg34
    have hM := (hM.trans (grow_mm hg34)).trans hm34
    have ho4 := hm34.own (ho4.grow hg34) hn4
    obtain ⟨⟨ka, kc, rfl, hks, hkq⟩, hrd⟩ := hq
    have hkn : ∀ k, Of ka k → w.heap.size ≤ k ∧ k ≠ b ∧ k ≠ b4 := fun k hk => by have h1 := hkq k hk; have h2 := (hoX.grow hg34).lt; have h3 := (hrX.grow hg34).lt; have h4 := hMX.size; have h5 := hg34.size; exact ⟨by omega, by omega, by omega⟩
    clear hoX hMX hrX hkq
    clear hg34 hm34
    refine lx_build (ps := [(0, .tmp 31), (1, .tmp 34)]) (vs := [.agg (hdOf bs).cs.toArray, .agg (Value.slice ka m kc :: (sub (bs.drop 112) (48 * m) 48).map U8).toArray]) (v := .agg ((hdOf bs).cs ++ ((Value.slice ka m kc :: (sub (bs.drop 112) (48 * m) 48).map U8) ++ (Zs 160).map U8)).toArray) rfl (fun w => bldBo (hdOf bs).cs (Value.slice ka m kc :: (sub (bs.drop 112) (48 * m) 48).map U8) (Hd.len (hdOf_ok (by omega))) hcl w) rfl rfl ?_
    refine lx_allocr 11 hGF zvBo rfl rfl ?_
    intro b11
    have hMs := hM.size
    refine lx_storea 11 hGF rfl rfl rfl Try.sizeOf42 (by simp only [List.length_append, List.length_map, Hd.len (hdOf_ok (show 112 ≤ bs.length by omega)), hcl]; rfl) Bo0_len (by rw [List.all_append, List.all_append, Hd.one, CoC_one, one_u8]; rfl) rfl ?_
    refine lx_nil ?_
    refine x_seq ?_
    refine x_now0 gt_low (fun w4 hC g4 => ?_)
    have hM := hM.trans (grow_mm (hp_below hC))
    have hlb := hrd.lt
    have hrd := hrd.grow (hp_below hC)
    have hl4 := ho4.lt
    have ho4 := ho4.grow (hp_below hC)
    have ho11 := (hC.own 11 _ _ _ rfl).1
    have hq5 := (hC.own 11 _ _ _ rfl).2.elim id False.elim
    simp only [pl] at hq5
    have hz11 : w.heap.size ≤ b11 := by omega
    have hn11 : b11 ≠ b := fun e => by omega
    have hx11_4 : b11 ≠ b4 := fun e => by omega
    have hkn : ∀ k, Of ka k → w.heap.size ≤ k ∧ k ≠ b ∧ k ≠ b4 ∧ k ≠ b11 := fun k hk => ⟨(hkn k hk).1, (hkn k hk).2.1, (hkn k hk).2.2, by have := hks.lt k hk; omega⟩
    have hks := hks.grow (hp_below hC)
    have hGF := gt_low.plain g4
    rw [show ((hdOf bs).cs ++ ((Value.slice ka m kc :: (sub (bs.drop 112) (48 * m) 48).map U8) ++ (Zs 160).map U8)) = ((hdOf bs).cs ++ ((Value.slice ka m kc :: (sub (bs.drop 112) (48 * m) 48).map U8) ++ ((rts bs (160 + 48 * m) 0 5).map U8 ++ []))) from by rw [rts_0, List.append_nil]] at ho11
    clear hC hq5 hl4 hlb
    have hbl : ∀ i, i ≤ 5 → ((hdOf bs).cs ++ ((Value.slice ka m kc :: (sub (bs.drop 112) (48 * m) 48).map U8) ++ ((rts bs (160 + 48 * m) i 5).map U8 ++ []))).length = 307 := fun i hi => by simp only [List.length_append, List.length_map, List.length_nil, Hd.len (hdOf_ok (show 112 ≤ bs.length by omega)), hcl, rts_len (bs := bs) (o := 160 + 48 * m) hi (by omega)] <;> omega
    refine xs_plain (E := EE []) ?_
    refine lx_assign rfl rfl rfl ?_
    refine lx_nil ?_
    refine x_block ?_
    refine x_forW gt_low (ι := { x : Nat × World // x.1 ≤ 5 ∧ Gt x.2 ∧ MM (fun k => k = b) w x.2 ∧ RdAt 84 S x.2 b (bs.drop (160 + 48 * m + 32 * x.1)) 0 ∧ OwnB x.2 b4 Bo0.cs 42 ∧ OwnB x.2 b11 ((hdOf bs).cs ++ ((Value.slice ka m kc :: (sub (bs.drop 112) (48 * m) 48).map U8) ++ ((rts bs (160 + 48 * m) x.1 5).map U8 ++ []))) 42 ∧ SlW 29 48 x.2 ka kc m ((keysOf (bs.drop 112) m).flatten.map U8) }) (fun x => [(4, .pointer (some ⟨b4, 0, none⟩)), (10, .pointer (some ⟨b, 0, none⟩)), (11, .pointer (some ⟨b11, 0, none⟩)), (12, I (x.1.1 : Int))]) (fun x => x.1.2) (fun x => 5 - x.1.1) ⟨(0, w4), Nat.zero_le _, g4, hM, hrd, ho4, ho11, hks⟩ (fun x => x.2.2.1) rfl ⟨rfl, rfl, rfl, rfl, trivial⟩ ?_
    clear hM hrd ho4 ho11 hks hGF
    rintro ⟨⟨i, wk⟩, hi, gk, hM, hrd, ho4, ho11, hks⟩
    dsimp only at hi gk hM hrd ho4 ho11 hks ⊢
    have hGF := gt_low.plain gk
    refine x_seq ?_
    refine xs_plain (E := EE []) ?_
    refine lx_move rfl rfl rfl ?_
    rcases Nat.lt_or_ge i 5 with hlt | hge
    · skip
      refine lx_binB true rfl rfl (fun _ => rfl) (fun _ => bin_lss_i _ _ _) (by simp; omega) rfl rfl ?_
      refine lx_nil ?_
      refine x_true rfl ?_
      refine x_skip ?_
      refine x_seq ?_
      refine x_block ?_
      refine x_plain (E := EE [47]) ?_
      refine lx_move rfl rfl rfl ?_
      refine lx_move rfl rfl rfl ?_
      refine lx_callW gt_low (M := fun k => k = b) (fun k _ => Nat.zero_le k) rfl rfl ent47 rfl rfl hGF (Q := fun w1 w2 v => v = .agg ((sub bs (160 + 48 * m + 32 * i) 32).map U8).toArray ∧ RdAt 84 S w2 b (bs.drop (160 + 48 * m + 32 * (i + 1))) 0) (fun w1 h1 g1 => (r32k (by rw [List.length_drop]; omega) w1 g1 (hrd.grow h1).lt (hrd.grow h1) (fun k hk => by have := hSz k hk; have := hM.size; have := h1.size; omega)).mono fun r w2 ⟨v, q1, q2, q3, q4⟩ => ⟨v, q1, q2, q3, by rw [List.drop_drop, show 160 + 48 * m + 32 * i + 32 = 160 + 48 * m + 32 * (i + 1) from by omega] at q4; exact q4⟩) (fun w42a w42 v hg42 hm42 gg42 hq => ?_)
      have hGF := gt_low.plain gg42
      have hM := (hM.trans (grow_mm hg42)).trans hm42
      have ho4 := hm42.own (ho4.grow hg42) hn4
      have ho11 := hm42.own (ho11.grow hg42) hn11
      obtain ⟨rfl, hrd⟩ := hq
      have hks := (hks.grow hg42).mm hm42 (fun k hk e => (hkn k hk).2.1 e)
      clear hg42 hm42
      refine lx_fak 147 rfl Try.underlying42 rfl Try.sizeOf32 (by decide) rfl rfl rfl ?_
      refine lx_iak i (147 + 32 * i) rfl rfl Try.underlying32 Try.sizeOf24 rfl hlt (by omega) rfl rfl ?_
      refine lx_stW gt_low (fun w' h => hGF.g _ _ _ h) (fun w' h => ho11.grow (hp_below h)) (Nat.zero_le _) rfl rfl Try.sizeOf24 (by rw [List.length_map]; exact sub_len (by omega)) (one_u8 _) (by rw [List.length_map, sub_len (by omega), hbl i hi]; omega) rfl (fun wBa wB hC g2 hm h2 => ?_)
      rw [show lay (147 + 32 * i) ((sub bs (160 + 48 * m + 32 * i) 32).map U8) ((hdOf bs).cs ++ ((Value.slice ka m kc :: (sub (bs.drop 112) (48 * m) 48).map U8) ++ ((rts bs (160 + 48 * m) i 5).map U8 ++ []))) = ((hdOf bs).cs ++ ((Value.slice ka m kc :: (sub (bs.drop 112) (48 * m) 48).map U8) ++ ((rts bs (160 + 48 * m) (i + 1) 5).map U8 ++ []))) from by have := rts_lay (bs := bs) (o := 160 + 48 * m) (i := i) (n := 5) (p := 147) (pre := (hdOf bs).cs ++ (Value.slice ka m kc :: (sub (bs.drop 112) (48 * m) 48).map U8)) (post := []) hlt (by omega) (by rw [List.length_append, Hd.len (hdOf_ok (show 112 ≤ bs.length by omega)), hcl]); rw [List.append_assoc, List.append_assoc] at this; exact this] at h2
      have hks := (hks.grow (hp_below hC)).mm hm (fun k hk e => (hkn k hk).2.2.2 e)
      have hM := (hM.trans (grow_mm (hp_below hC))).trans' hm (fun i e hi => by subst e; omega)
      have hrd := (hrd.grow (hp_below hC)).mm hm (fun e => hn11 e.symm) (fun i hi hl e => by have := hSz i hi; subst e; omega)
      have ho4 := hm.own (ho4.grow (hp_below hC)) (fun e => hx11_4 e.symm)
      have ho11 := h2
      have hGF := gt_low.plain g2
      clear hC hm h2
      refine lx_nil ?_
      refine x_plain (E := EE []) ?_
      refine lx_move rfl rfl rfl ?_
      refine lx_bin (v := I (((i + 1 : Nat) : Int))) rfl rfl (fun _ => rfl) (fun _ => (bin_add_i _ _ _ (by unfold inI; omega)).trans (by rfl)) rfl rfl ?_
      refine lx_assign rfl rfl rfl ?_
      refine lx_nil ?_
      repeat (refine kblk_n ?_)
      refine kseq_n ?_
      exact ⟨rfl, ⟨(i + 1, wB), hlt, g2, hM, hrd, ho4, ho11, hks⟩, by show 5 - (i + 1) < 5 - i; omega, rfl, ⟨rfl, rfl, rfl, rfl, trivial⟩⟩
    · skip
      obtain rfl : i = 5 := by omega
      refine lx_binB false rfl rfl (fun _ => rfl) (fun _ => bin_lss_i _ _ _) (by rw [decide_eq_false_iff_not]; omega) rfl rfl ?_
      refine lx_nil ?_
      refine x_false rfl ?_
      refine x_exit ?_
      have hcl5 := hbl 5 (Nat.le_refl _)
      have hone : ((hdOf bs).cs ++ ((Value.slice ka m kc :: (sub (bs.drop 112) (48 * m) 48).map U8) ++ ((rts bs (160 + 48 * m) 5 5).map U8 ++ []))).all (·.oneCell') = true := by rw [List.all_append, List.all_append, List.all_append, Hd.one, CoC_one, one_u8]; rfl
      refine xs_drawK (E := EE [48]) (fun X => X = (fun w' => OwnB w' b11 ((hdOf bs).cs ++ ((Value.slice ka m kc :: (sub (bs.drop 112) (48 * m) 48).map U8) ++ ((rts bs (160 + 48 * m) 5 5).map U8 ++ []))) 42)) (mkC [48]) (rkB [45]) [0, 1, 2, 3, 4] mixed rfl (by kernel_rfl) (by kernel_rfl) (by kernel_rfl) ?_
      refine lxk_q (X := fun w' => OwnB w' b11 ((hdOf bs).cs ++ ((Value.slice ka m kc :: (sub (bs.drop 112) (48 * m) 48).map U8) ++ ((rts bs (160 + 48 * m) 5 5).map U8 ++ []))) 42) rfl (fun w' h => ho11.grow (hp_below h)) (fun _ => rfl) ?_
      refine lx_loadr (cs := ((hdOf bs).cs ++ ((Value.slice ka m kc :: (sub (bs.drop 112) (48 * m) 48).map U8) ++ ((rts bs (160 + 48 * m) 5 5).map U8 ++ [])))) rfl Try.isAgg42 Try.sizeOf42 hcl5 (fun w' h => h.range) rfl rfl ?_
      refine lx_nil ?_
      refine lxk_s rfl rfl ?_
      refine lx_move rfl rfl rfl ?_
      refine lx_nil ?_
      refine lxk_e rfl ?_
      refine lx_callW gt_low (M := fun k => k = b) (fun k _ => Nat.zero_le k) rfl rfl ent48 rfl rfl hGF (Q := fun w1 w2 v => v = I 0) (fun w1 h1 g1 => (ren_calls S b (bs.drop (160 + 48 * m + 32 * 5)) 0 w1 g1 (hrd.grow h1)).mono fun r w2 ⟨q1, q2⟩ => ⟨_, q1, q2, by rw [List.drop_of_length_le (by omega)]; rfl⟩) (fun w47a w47 v hg47 hm47 gg47 hq => ?_)
      have hGF := gt_low.plain gg47
      have hM := (hM.trans (grow_mm hg47)).trans hm47
      have ho4 := hm47.own (ho4.grow hg47) hn4
      have ho11 := hm47.own (ho11.grow hg47) hn11
      subst hq
      have hks := (hks.grow hg47).mm hm47 (fun k hk e => (hkn k hk).2.1 e)
      clear hg47 hm47
      refine lx_nil ?_
      refine ⟨fun _ X hX _ => by subst hX; exact fun w' h => ho11.grow (hp_below h), ?_⟩
      refine lxk_e rfl ?_
      refine lx_stW gt_low (fun w' h => hGF.g _ _ _ h) (fun w' h => ho4.grow (hp_below h)) (Nat.zero_le _) rfl rfl Try.sizeOf42 hcl5 hone (by rw [hcl5, Bo0_len]; decide) rfl (fun wFa wF hC g2 hm h2 => ?_)
      rw [lay_all _ _ (by rw [hcl5, Bo0_len])] at h2
      have hks := (hks.grow (hp_below hC)).mm hm (fun k hk e => (hkn k hk).2.2.1 e)
      have hM := (hM.trans (grow_mm (hp_below hC))).trans' hm (fun i e hi => by subst e; omega)
      have ho4 := h2
      have hGF := gt_low.plain g2
      clear hC hm h2
      refine lx_nil ?_
      refine ⟨fun h => (by cases h), ?_⟩
      refine lxk_s rfl rfl ?_
      refine lx_assign rfl rfl rfl ?_
      refine lx_nil ?_
      refine lxk_nil ?_
      refine x_ret ?_
      repeat (first | refine kseq_ret ?_ | refine kblk_ret ?_)
      exact kret_ctW rfl rfl rfl Try.isAgg42 Try.sizeOf42 hcl5 (fun w' h => (ho4.grow (hp_below h)).range) (fun w' hw' => ⟨(hM.trans (grow_mm (hp_below hw'))).grow (fun k hk e => by omega), fun _ => ⟨ka, kc, by rw [rts_n, List.append_nil, show (boOf bs m ka kc).cs = _ from boOf_cs], hks.grow (hp_below hw'), fun k hk => (hkn k hk).1⟩, fun h => absurd hlen h⟩)
  · skip
    refine lx_binB true rfl rfl (fun _ => rfl) (fun _ => bin_neq_i _ _ _) (bne_iff_ne.2 (fun e => hlen (by omega))) rfl rfl ?_
    refine lx_nil ?_
    refine x_true rfl ?_
    refine xs_plain (E := EE []) ?_
    refine lx_build (ps := []) (vs := []) (v := .agg Bo0.cs.toArray) rfl (fun w => bldBo0 w) rfl rfl ?_
    refine lx_storea 4 hGF rfl rfl rfl Try.sizeOf42 Bo0_len Bo0_len (by decide) rfl ?_
    refine lx_assign rfl rfl rfl ?_
    refine lx_nil ?_
    refine x_ret ?_
    repeat (first | refine kseq_ret ?_ | refine kblk_ret ?_)
    exact kret_ct 4 rfl rfl rfl rfl Try.isAgg42 Try.sizeOf42 Bo0_len (fun w' hw' => ⟨hp_below hw', fun h => absurd h hlen, fun _ => rfl⟩)
end Go.Proofs.Ytlaanjcnfindnaa
