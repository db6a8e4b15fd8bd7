/-
  Committees, updates, bootstraps held against one another: the same ones.
-/
import Derived.Test.YtlaanjcnfindnaaVL
import Derived.Test.YtlaanjcnfindnaaX3
namespace Go.Proofs.Ytlaanjcnfindnaa
open Go.RowKit
set_option maxRecDepth 100000
set_option maxHeartbeats 1000000

theorem rg_at {w : World} {b o : Nat} {cs ds : List Value} (h : w.rangeAt b 0 cs) (hc : ∀ j v, ds[j]? = some v → cs[o + j]? = some v) : w.rangeAt b o ds := fun j v hv => by
  have := h _ v (hc j v hv)
  rw [Nat.zero_add] at this
  exact this
def Up.re (u : Up) (ka : Option Addr) (kc : Nat) (ba : Option Addr) (bc : Nat) : Up := ⟨u.at_, ⟨u.nx.ks, ka, kc, u.nx.sum⟩, u.br, u.fi, u.fy, ⟨u.sy.bs, ba, bc, u.sy.sig⟩, u.sl⟩
def Co.re (c : Co) (ka : Option Addr) (kc : Nat) : Co := ⟨c.ks, ka, kc, c.sum⟩
def Bo.re (b : Bo) (ka : Option Addr) (kc : Nat) : Bo := ⟨b.hd, b.nw.re ka kc, b.br⟩
theorem Co.re_ok {c : Co} (h : c.Ok) {ka : Option Addr} {kc : Nat} (hk : c.ks.length ≤ kc) : (c.re ka kc).Ok := ⟨h.ks, h.sum, hk⟩
theorem Up.re_ok {u : Up} (h : u.Ok) {ka ba : Option Addr} {kc bc : Nat} (hk : u.nx.ks.length ≤ kc) : (u.re ka kc ba bc).Ok := ⟨h.at_, Co.re_ok h.nx hk, h.br, h.fi, h.fy, ⟨h.sy.sig⟩⟩
theorem Bo.re_ok {b : Bo} (h : b.Ok) {ka : Option Addr} {kc : Nat} (hk : b.nw.ks.length ≤ kc) : (b.re ka kc).Ok := ⟨h.hd, Co.re_ok h.nw hk, h.br⟩
theorem Up.at_sig {u : Up} (k : u.Ok) : ∀ j v, (u.sy.sig.map U8)[j]? = some v → u.cs[598 + j]? = some v := at_trans (o := 597) (p := 1) (Up.at_sy k) Ag.at_sig
theorem one_at {cs : List Value} {o : Nat} {v : Value} (h : cs[o]? = some v) : ∀ j u, [v][j]? = some u → cs[o + j]? = some u := fun j u hu => by
  cases j with
  | zero => cases hu; exact h
  | succ j => simp at hu
end Go.Proofs.Ytlaanjcnfindnaa
