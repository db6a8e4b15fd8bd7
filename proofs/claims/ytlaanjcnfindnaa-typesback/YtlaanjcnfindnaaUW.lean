/-
  The law that each thing is read back from its bytes as it was.
-/
import Derived.Test.YtlaanjcnfindnaaUT
namespace Go.Proofs.Ytlaanjcnfindnaa
open Go.RowKit
set_option maxRecDepth 100000
set_option maxHeartbeats 1000000

def mkAp (o : Oper) : Bool := match o.op with
  | .call { callee := .builtin .append, .. } => true
  | _ => false
theorem Up.Ok.ul {u : Up} (k : u.Ok) : UL u.at_.cs u.nx.cs (u.br.map U8) u.fi.cs (u.fy.map U8) u.sy.cs [U64 u.sl] := ⟨Hd.len k.at_, Co.len k.nx, by rw [List.length_map, k.br], Hd.len k.fi, by rw [List.length_map, k.fy], Ag.len k.sy, rfl⟩
def Up.bits (u : Up) (L : List Bool) (a : Option Addr) (c : Nat) : Up := ⟨u.at_, u.nx, u.br, u.fi, u.fy, ⟨L, a, c, u.sy.sig⟩, u.sl⟩
def Up.keys (u : Up) (K : List By) (a : Option Addr) (c : Nat) : Up := ⟨u.at_, ⟨K, a, c, u.nx.sum⟩, u.br, u.fi, u.fy, u.sy, u.sl⟩
def Bo.keys (b : Bo) (K : List By) (a : Option Addr) (c : Nat) : Bo := ⟨b.hd, ⟨K, a, c, b.nw.sum⟩, b.br⟩
theorem Up.bits_ok {u : Up} (k : u.Ok) (L : List Bool) (a : Option Addr) (c : Nat) : (u.bits L a c).Ok := ⟨k.at_, k.nx, k.br, k.fi, k.fy, ⟨k.sy.sig⟩⟩
theorem Up.keys_ok {u : Up} (k : u.Ok) {K : List By} {a : Option Addr} {c : Nat} (h : ∀ r ∈ K, r.length = 48) (hc : K.length ≤ c) : (u.keys K a c).Ok := ⟨k.at_, ⟨h, k.nx.sum, hc⟩, k.br, k.fi, k.fy, k.sy⟩
theorem Bo.keys_ok {b : Bo} (k : b.Ok) {K : List By} {a : Option Addr} {c : Nat} (h : ∀ r ∈ K, r.length = 48) (hc : K.length ≤ c) : (b.keys K a c).Ok := ⟨k.hd, ⟨h, k.nw.sum, hc⟩, k.br⟩
theorem Up.bits_cs {u : Up} (k : u.Ok) (L : List Bool) (a : Option Addr) (c : Nat) : u.cs.set 597 (.slice a L.length c) = (u.bits L a c).cs := U_set (r := u.sy.sig.map U8) (x := .slice u.sy.ba u.sy.bs.length u.sy.bc) k.ul
theorem Up.keys_cs {u : Up} (k : u.Ok) (K : List By) (a : Option Addr) (c : Nat) : u.cs.set 98 (.slice a K.length c) = (u.keys K a c).cs := by
  have := lay_mV (pre := u.at_.cs) (old := [Value.slice u.nx.ka u.nx.ks.length u.nx.kc]) (post := u.nx.sum.map U8 ++ (u.br.map U8 ++ (u.fi.cs ++ (u.fy.map U8 ++ (u.sy.cs ++ [U64 u.sl]))))) (vs := [Value.slice a K.length c]) (o := 98) (Hd.len k.at_) rfl
  exact this
theorem Bo.keys_cs {b : Bo} (k : b.Ok) (K : List By) (a : Option Addr) (c : Nat) : b.cs.set 98 (.slice a K.length c) = (b.keys K a c).cs := by
  have := lay_mV (pre := b.hd.cs) (old := [Value.slice b.nw.ka b.nw.ks.length b.nw.kc]) (post := b.nw.sum.map U8 ++ b.br.map U8) (vs := [Value.slice a K.length c]) (o := 98) (Hd.len k.hd) rfl
  exact this
/-- Without a committee; without finality. -/
def Up.noNx (u : Up) : Up := ⟨u.at_, ⟨[], none, 0, Z48⟩, Zs 160, u.fi, u.fy, u.sy, u.sl⟩
def Up.noFi (u : Up) : Up := ⟨u.at_, u.nx, u.br, Hd0, Zs 192, u.sy, u.sl⟩
theorem Up.noNx_ok {u : Up} (k : u.Ok) : u.noNx.Ok := ⟨k.at_, ⟨fun _ h => (by cases h), rfl, Nat.le_refl _⟩, rfl, k.fi, k.fy, k.sy⟩
theorem Up.noFi_ok {u : Up} (k : u.Ok) : u.noFi.Ok := ⟨k.at_, k.nx, k.br, Hd0_ok, rfl, k.sy⟩
theorem UC_1' {p0 p1 p2 p3 p4 p5 p6 q : List Value} (h : UL p0 p1 p2 p3 p4 p5 p6) (hq : q.length = 49) : lay 98 q (UC p0 p1 p2 p3 p4 p5 p6) = UC p0 q p2 p3 p4 p5 p6 := UC_1 h hq
theorem UC_2z {p0 p1 p2 p3 p4 p5 p6 q : List Value} (h : UL p0 p1 p2 p3 p4 p5 p6) (hq : q.length = 160) : lay 147 q (UC p0 p1 p2 p3 p4 p5 p6) = UC p0 p1 q p3 p4 p5 p6 := by
  have := lay_mV (pre := p0 ++ p1) (old := p2) (post := p3 ++ (p4 ++ (p5 ++ p6))) (vs := q) (o := 147) (by simp [h.l0, h.l1]) (by rw [hq, h.l2])
  simpa [UC, List.append_assoc] using this
theorem UC_4z {p0 p1 p2 p3 p4 p5 p6 q : List Value} (h : UL p0 p1 p2 p3 p4 p5 p6) (hq : q.length = 192) : lay 405 q (UC p0 p1 p2 p3 p4 p5 p6) = UC p0 p1 p2 p3 q p5 p6 := by
  have := lay_mV (pre := p0 ++ (p1 ++ (p2 ++ p3))) (old := p4) (post := p5 ++ p6) (vs := q) (o := 405) (by simp [h.l0, h.l1, h.l2, h.l3]) (by rw [hq, h.l4])
  simpa [UC, List.append_assoc] using this
theorem noNx_cs {u : Up} (k : u.Ok) : lay 147 ((Zs 160).map U8) (lay 98 Co0 u.cs) = u.noNx.cs := by
  have h := k.ul
  rw [show u.cs = UC u.at_.cs u.nx.cs (u.br.map U8) u.fi.cs (u.fy.map U8) u.sy.cs [U64 u.sl] from rfl, UC_1' h (by decide), UC_2z ⟨h.l0, by decide, h.l2, h.l3, h.l4, h.l5, h.l6⟩ (by decide)]
  rfl
theorem noFi_cs {u : Up} (k : u.Ok) : lay 405 ((Zs 192).map U8) (lay 307 Hd0.cs u.cs) = u.noFi.cs := by
  have h := k.ul
  rw [show u.cs = UC u.at_.cs u.nx.cs (u.br.map U8) u.fi.cs (u.fy.map U8) u.sy.cs [U64 u.sl] from rfl, UC_3 h (by decide), UC_4z ⟨h.l0, h.l1, h.l2, by decide, h.l4, h.l5, h.l6⟩ (by decide)]
  rfl
theorem RwsAt.take {s : Nat} {w : World} {a : Option Addr} {l : List By} (h : RwsAt s w a l) (j : Nat) : RwsAt s w a (l.take j) := fun i r hr => h i r (by
  rw [List.getElem?_take] at hr
  split at hr
  · exact hr
  · cases hr)
theorem szN_m {m : Nat} (h : 1 ≤ m ∧ m ≤ 20) : szN (m : Int) = m := by unfold szN; omega
theorem dU_back (hT : TypesP) {m : Nat} (hm : 1 ≤ m ∧ m ≤ 20) {u : Up} (k : u.Ok) (h1 : u.nx.ks.length = m) (h2 : u.sy.bs.length = m) (a : Option Addr) (cap : Nat) (hcap : u.by.length ≤ cap) (w : World) (hw : Gt w) (hb : BytesAt w a u.by) (hab : ∀ ad, a = some ad → ad.block < w.heap.size) : Calls Try.prog 23 [.slice a u.by.length cap, I (m : Int)].toArray w (fun e w' => ∃ v, e = .returned v ∧ MM (fun _ => False) w w' ∧ ∃ ka kc ba bc, v = .tuple #[.agg (u.re ka kc ba bc).cs.toArray, I 0] ∧ RwsAt 48 w' ka u.nx.ks ∧ CellsAt w' ba (u.sy.bs.map .bool) ∧ u.nx.ks.length ≤ kc ∧ (∀ k, Of ka k → w.heap.size ≤ k) ∧ ∀ ad, ba = some ad → w.heap.size ≤ ad.block) := by
  obtain ⟨e1, e2⟩ := u1_of k h1 h2
  refine (hT.decU (m : Int) m (szN_m hm) u.by a cap hcap (by rw [by_len k h2]; unfold sz2 szB; omega) w hw hb hab).mono fun e w' ⟨hg, x1, _, _⟩ => ?_
  obtain ⟨ka, kc, hs, hf, ba, bc, rfl, hbb, hf2⟩ := x1 (by_len k h2) e2
  have e3 : (UC (hdOf u.by).cs (Value.slice ka m kc :: (sub (u.by.drop 112) (48 * m) 48).map U8) ((sub u.by (160 + 48 * m) (32 * 5)).map U8) (hdOf (u.by.drop (320 + 48 * m))).cs ((sub u.by (432 + 48 * m) (32 * 6)).map U8) (Value.slice ba (bt (sub u.by (624 + 48 * m) (szB m)) m).length bc :: (sub u.by (624 + 48 * m + szB m) 96).map U8) [U64 (pn (sub u.by (624 + 48 * m + szB m + 96) 8) 8)]) = ((u1Of u.by m).re ka kc ba bc).cs := by simp only [Up.re, Up.cs, Co.cs, Ag.cs, u1Of, keysOf_len, UC]
  have e4 : keysOf (u.by.drop 112) m = u.nx.ks := congrArg (fun x : Up => x.nx.ks) e1
  have e5 : bt (sub u.by (624 + 48 * m) (szB m)) m = u.sy.bs := congrArg (fun x : Up => x.sy.bs) e1
  rw [e4] at hs
  rw [e5] at hbb
  refine ⟨_, rfl, grow_mm hg, ka, kc, ba, bc, ?_, rws_of hs k.nx.ks, hbb.cells, by rw [h1]; exact slw_le hs, hf, hf2⟩
  rw [e3, e1]
  rfl
theorem dF_back (hT : TypesP) {m : Nat} (hm : 1 ≤ m ∧ m ≤ 20) {u : Up} (k : u.Ok) (h2 : u.sy.bs.length = m) (a : Option Addr) (cap : Nat) (hcap : u.fin.length ≤ cap) (w : World) (hw : Gt w) (hb : BytesAt w a u.fin) (hab : ∀ ad, a = some ad → ad.block < w.heap.size) : Calls Try.prog 24 [.slice a u.fin.length cap, I (m : Int)].toArray w (fun e w' => ∃ v, e = .returned v ∧ MM (fun _ => False) w w' ∧ ∃ ka kc ba bc, v = .tuple #[.agg (u.noNx.re ka kc ba bc).cs.toArray, I 0] ∧ RwsAt 48 w' ka u.noNx.nx.ks ∧ CellsAt w' ba (u.noNx.sy.bs.map .bool) ∧ u.noNx.nx.ks.length ≤ kc ∧ ∀ ad, ba = some ad → w.heap.size ≤ ad.block) := by
  obtain ⟨e1, e2⟩ := u2_of (u := u.noNx) (Up.noNx_ok k) rfl rfl h2
  refine (hT.decF (m : Int) m (szN_m hm) u.fin a cap hcap (by rw [fin_len k h2]; unfold sz3 szB; omega) w hw hb hab).mono fun e w' ⟨hg, x1, _, _⟩ => ?_
  obtain ⟨ba, bc, rfl, hbb, hf2⟩ := x1 (fin_len k h2) e2
  refine ⟨_, rfl, grow_mm hg, ?_⟩
  have h3 : (.tuple #[.agg (UC (hdOf u.fin).cs Co0 ((Zs 160).map U8) (hdOf (u.fin.drop 112)).cs ((sub u.fin 224 (32 * 6)).map U8) (Value.slice ba (bt (sub u.fin 416 (szB m)) m).length bc :: (sub u.fin (416 + szB m) 96).map U8) [U64 (pn (sub u.fin (416 + szB m + 96) 8) 8)]).toArray, I 0] : Value) = .tuple #[.agg ((u2Of u.fin m).re none 0 ba bc).cs.toArray, I 0] ∧ RwsAt 48 w' none (u2Of u.fin m).nx.ks ∧ CellsAt w' ba ((u2Of u.fin m).sy.bs.map .bool) ∧ (u2Of u.fin m).nx.ks.length ≤ 0 ∧ ∀ ad, ba = some ad → w.heap.size ≤ ad.block := ⟨rfl, rws_nil _ _, hbb.cells, Nat.le_refl _, hf2⟩
  have e3 : u2Of u.fin m = u.noNx.re none 0 none 0 := e1
  rw [e3] at h3
  exact ⟨none, 0, ba, bc, h3⟩
theorem dO_back (hT : TypesP) {m : Nat} (hm : 1 ≤ m ∧ m ≤ 20) {u : Up} (k : u.Ok) (h2 : u.sy.bs.length = m) (a : Option Addr) (cap : Nat) (hcap : u.opt.length ≤ cap) (w : World) (hw : Gt w) (hb : BytesAt w a u.opt) (hab : ∀ ad, a = some ad → ad.block < w.heap.size) : Calls Try.prog 25 [.slice a u.opt.length cap, I (m : Int)].toArray w (fun e w' => ∃ v, e = .returned v ∧ MM (fun _ => False) w w' ∧ ∃ ka kc ba bc, v = .tuple #[.agg (u.noNx.noFi.re ka kc ba bc).cs.toArray, I 0] ∧ RwsAt 48 w' ka u.noNx.noFi.nx.ks ∧ CellsAt w' ba (u.noNx.noFi.sy.bs.map .bool) ∧ u.noNx.noFi.nx.ks.length ≤ kc ∧ ∀ ad, ba = some ad → w.heap.size ≤ ad.block) := by
  obtain ⟨e1, e2⟩ := u3_of (u := u.noNx.noFi) (Up.noFi_ok (Up.noNx_ok k)) rfl rfl rfl rfl h2
  refine (hT.decO (m : Int) m (szN_m hm) u.opt a cap hcap (by rw [opt_len k h2]; unfold sz4 szB; omega) w hw hb hab).mono fun e w' ⟨hg, x1, _, _⟩ => ?_
  obtain ⟨ba, bc, rfl, hbb, hf2⟩ := x1 (opt_len k h2) e2
  refine ⟨_, rfl, grow_mm hg, ?_⟩
  have h3 : (.tuple #[.agg (UC (hdOf u.opt).cs Co0 ((Zs 160).map U8) Hd0.cs ((Zs 192).map U8) (Value.slice ba (bt (sub u.opt 112 (szB m)) m).length bc :: (sub u.opt (112 + szB m) 96).map U8) [U64 (pn (sub u.opt (112 + szB m + 96) 8) 8)]).toArray, I 0] : Value) = .tuple #[.agg ((u3Of u.opt m).re none 0 ba bc).cs.toArray, I 0] ∧ RwsAt 48 w' none (u3Of u.opt m).nx.ks ∧ CellsAt w' ba ((u3Of u.opt m).sy.bs.map .bool) ∧ (u3Of u.opt m).nx.ks.length ≤ 0 ∧ ∀ ad, ba = some ad → w.heap.size ≤ ad.block := ⟨rfl, rws_nil _ _, hbb.cells, Nat.le_refl _, hf2⟩
  have e3 : u3Of u.opt m = u.noNx.noFi.re none 0 none 0 := e1
  rw [e3] at h3
  exact ⟨none, 0, ba, bc, h3⟩
theorem dB_back (hT : TypesP) {m : Nat} (hm : 1 ≤ m ∧ m ≤ 20) {b : Bo} (k : b.Ok) (h1 : b.nw.ks.length = m) (a : Option Addr) (cap : Nat) (hcap : b.by.length ≤ cap) (w : World) (hw : Gt w) (hb : BytesAt w a b.by) (hab : ∀ ad, a = some ad → ad.block < w.heap.size) : Calls Try.prog 21 [.slice a b.by.length cap, I (m : Int)].toArray w (fun e w' => ∃ v, e = .returned v ∧ MM (fun _ => False) w w' ∧ BR b 0 w' v) := by
  have e1 := bo_of k h1
  refine (hT.decB (m : Int) m (szN_m hm) b.by a cap hcap (by rw [bo_len k h1]; unfold sz1; omega) w hw hb hab).mono fun e w' ⟨hg, x1, _⟩ => ?_
  obtain ⟨ka, kc, rfl, hs, _⟩ := x1 (bo_len k h1)
  refine ⟨_, rfl, grow_mm hg, ?_⟩
  have h3 : BR (boOf b.by m none m) 0 w' (.tuple #[.agg (boOf b.by m ka kc).cs.toArray, I 0]) := ⟨ka, kc, rfl, rws_of hs (boOf_ok (ka := none) (bo_len k h1) (Nat.le_refl m)).nw.ks, by show (keysOf _ _).length ≤ kc; rw [keysOf_len]; exact slw_le hs⟩
  rw [e1] at h3
  exact h3
theorem dU_not (hT : TypesP) {m : Nat} (hm : 1 ≤ m ∧ m ≤ 20) (bs : By) (hl : bs.length ≠ sz2 m) (hl2 : bs.length ≤ 100000) (a : Option Addr) (cap : Nat) (hcap : bs.length ≤ cap) (w : World) (hw : Gt w) (hb : BytesAt w a bs) (hab : ∀ ad, a = some ad → ad.block < w.heap.size) : Calls Try.prog 23 [.slice a bs.length cap, I (m : Int)].toArray w (fun e w' => ∃ v, e = .returned v ∧ MM (fun _ => False) w w' ∧ v = .tuple #[.agg U0.toArray, I 170]) :=
  (hT.decU (m : Int) m (szN_m hm) bs a cap hcap hl2 w hw hb hab).mono fun _ _ ⟨hg, _, _, x3⟩ => ⟨_, x3 hl, grow_mm hg, rfl⟩
end Go.Proofs.Ytlaanjcnfindnaa
