/-
  What is asked of the program's things; light ones.
-/
import Derived.Test.YtlaanjcnfindnaaVM
import Derived.Test.YtlaanjcnfindnaaVK
namespace Go.Proofs.Ytlaanjcnfindnaa
open Go.RowKit
set_option maxRecDepth 100000
set_option maxHeartbeats 1000000

theorem ent30 : Enters Try.prog 30 := fun _ _ => by kernel_rfl
theorem ent18 : Enters Try.prog 18 := fun _ _ => by kernel_rfl
theorem ent12 : Enters Try.prog 12 := fun _ _ => by kernel_rfl
theorem ent14 : Enters Try.prog 14 := fun _ _ => by kernel_rfl
theorem ent16 : Enters Try.prog 16 := fun _ _ => by kernel_rfl
theorem ent21 : Enters Try.prog 21 := fun _ _ => by kernel_rfl
theorem ent23 : Enters Try.prog 23 := fun _ _ => by kernel_rfl
theorem ent24 : Enters Try.prog 24 := fun _ _ => by kernel_rfl
theorem ent25 : Enters Try.prog 25 := fun _ _ => by kernel_rfl
theorem ent9 : Enters Try.prog 9 := fun _ _ => by kernel_rfl
/-- What is asked of package types. -/
structure TypesP : Prop where
  sizes : ∀ (n : Int) (w : World), Gt w → Calls Try.prog 30 [I n].toArray w (fun e w' => e = .returned (.tuple #[I (sz1 (szN n) : Nat), I (sz2 (szN n) : Nat), I (sz3 (szN n) : Nat), I (sz4 (szN n) : Nat)]) ∧ Grow w w')
  encU : ∀ (u : Up), u.Ok → u.nx.ks.length ≤ 1000 → u.sy.bs.length ≤ 1000 → ∀ (w : World), Gt w → RwsAt 48 w u.nx.ka u.nx.ks → CellsAt w u.sy.ba (u.sy.bs.map .bool) → Calls Try.prog 12 [.agg u.cs.toArray].toArray w (fun e w' => ∃ v, e = .returned v ∧ Grow w w' ∧ Fr8 w w' v u.by)
  encF : ∀ (u : Up), u.Ok → u.nx.ks.length ≤ 1000 → u.sy.bs.length ≤ 1000 → ∀ (w : World), Gt w → RwsAt 48 w u.nx.ka u.nx.ks → CellsAt w u.sy.ba (u.sy.bs.map .bool) → Calls Try.prog 14 [.agg u.cs.toArray].toArray w (fun e w' => ∃ v, e = .returned v ∧ Grow w w' ∧ Fr8 w w' v u.fin)
  encO : ∀ (u : Up), u.Ok → u.nx.ks.length ≤ 1000 → u.sy.bs.length ≤ 1000 → ∀ (w : World), Gt w → RwsAt 48 w u.nx.ka u.nx.ks → CellsAt w u.sy.ba (u.sy.bs.map .bool) → Calls Try.prog 16 [.agg u.cs.toArray].toArray w (fun e w' => ∃ v, e = .returned v ∧ Grow w w' ∧ Fr8 w w' v u.opt)
  encB : ∀ (b : Bo), b.Ok → b.nw.ks.length ≤ 1000 → ∀ (w : World), Gt w → RwsAt 48 w b.nw.ka b.nw.ks → Calls Try.prog 18 [.agg b.cs.toArray].toArray w (fun e w' => ∃ v, e = .returned v ∧ Grow w w' ∧ Fr8 w w' v b.by)
  decB : ∀ (n : Int) (m : Nat), szN n = m → ∀ (bs : By) (a : Option Addr) (cap : Nat), bs.length ≤ cap → bs.length ≤ 100000 → ∀ (w : World), Gt w → BytesAt w a bs → (∀ ad, a = some ad → ad.block < w.heap.size) → Calls Try.prog 21 [.slice a bs.length cap, I n].toArray w (fun e w' => Grow w w' ∧ (bs.length = sz1 m → ∃ ka kc, e = .returned (.tuple #[.agg (boOf bs m ka kc).cs.toArray, I 0]) ∧ SlW 29 48 w' ka kc m ((keysOf (bs.drop 112) m).flatten.map U8) ∧ ∀ k, Of ka k → w.heap.size ≤ k) ∧ (¬ bs.length = sz1 m → e = .returned (.tuple #[.agg Bo0.cs.toArray, I 170])))
  decU : ∀ (n : Int) (m : Nat), szN n = m → ∀ (bs : By) (a : Option Addr) (cap : Nat), bs.length ≤ cap → bs.length ≤ 100000 → ∀ (w : World), Gt w → BytesAt w a bs → (∀ ad, a = some ad → ad.block < w.heap.size) → Calls Try.prog 23 [.slice a bs.length cap, I n].toArray w (fun e w' => Grow w w' ∧ (bs.length = sz2 m → cleanB (sub bs (624 + 48 * m) (szB m)) m = true → ∃ ka kc, SlW 29 48 w' ka kc m ((keysOf (bs.drop 112) m).flatten.map U8) ∧ (∀ k, Of ka k → w.heap.size ≤ k) ∧ ∃ ba bc, e = .returned (.tuple #[.agg (UC (hdOf bs).cs (Value.slice ka m kc :: (sub (bs.drop 112) (48 * m) 48).map U8) ((sub bs (160 + 48 * m) (32 * 5)).map U8) (hdOf (bs.drop (320 + 48 * m))).cs ((sub bs (432 + 48 * m) (32 * 6)).map U8) (Value.slice ba (bt (sub bs (624 + 48 * m) (szB m)) m).length bc :: (sub bs (624 + 48 * m + szB m) 96).map U8) [U64 (pn (sub bs (624 + 48 * m + szB m + 96) 8) 8)]).toArray, I 0]) ∧ SlV 4 w' ba bc ((bt (sub bs (624 + 48 * m) (szB m)) m).map .bool) ∧ ∀ ad, ba = some ad → w.heap.size ≤ ad.block) ∧ (bs.length = sz2 m → cleanB (sub bs (624 + 48 * m) (szB m)) m = false → e = .returned (.tuple #[.agg U0.toArray, I 171])) ∧ (¬ bs.length = sz2 m → e = .returned (.tuple #[.agg U0.toArray, I 170])))
  decF : ∀ (n : Int) (m : Nat), szN n = m → ∀ (bs : By) (a : Option Addr) (cap : Nat), bs.length ≤ cap → bs.length ≤ 100000 → ∀ (w : World), Gt w → BytesAt w a bs → (∀ ad, a = some ad → ad.block < w.heap.size) → Calls Try.prog 24 [.slice a bs.length cap, I n].toArray w (fun e w' => Grow w w' ∧ (bs.length = sz3 m → cleanB (sub bs (416) (szB m)) m = true → ∃ ba bc, e = .returned (.tuple #[.agg (UC (hdOf bs).cs Co0 ((Zs 160).map U8) (hdOf (bs.drop (112))).cs ((sub bs (224) (32 * 6)).map U8) (Value.slice ba (bt (sub bs (416) (szB m)) m).length bc :: (sub bs (416 + szB m) 96).map U8) [U64 (pn (sub bs (416 + szB m + 96) 8) 8)]).toArray, I 0]) ∧ SlV 4 w' ba bc ((bt (sub bs (416) (szB m)) m).map .bool) ∧ ∀ ad, ba = some ad → w.heap.size ≤ ad.block) ∧ (bs.length = sz3 m → cleanB (sub bs (416) (szB m)) m = false → e = .returned (.tuple #[.agg U0.toArray, I 171])) ∧ (¬ bs.length = sz3 m → e = .returned (.tuple #[.agg U0.toArray, I 170])))
  decO : ∀ (n : Int) (m : Nat), szN n = m → ∀ (bs : By) (a : Option Addr) (cap : Nat), bs.length ≤ cap → bs.length ≤ 100000 → ∀ (w : World), Gt w → BytesAt w a bs → (∀ ad, a = some ad → ad.block < w.heap.size) → Calls Try.prog 25 [.slice a bs.length cap, I n].toArray w (fun e w' => Grow w w' ∧ (bs.length = sz4 m → cleanB (sub bs (112) (szB m)) m = true → ∃ ba bc, e = .returned (.tuple #[.agg (UC (hdOf bs).cs Co0 ((Zs 160).map U8) Hd0.cs ((Zs 192).map U8) (Value.slice ba (bt (sub bs (112) (szB m)) m).length bc :: (sub bs (112 + szB m) 96).map U8) [U64 (pn (sub bs (112 + szB m + 96) 8) 8)]).toArray, I 0]) ∧ SlV 4 w' ba bc ((bt (sub bs (112) (szB m)) m).map .bool) ∧ ∀ ad, ba = some ad → w.heap.size ≤ ad.block) ∧ (bs.length = sz4 m → cleanB (sub bs (112) (szB m)) m = false → e = .returned (.tuple #[.agg U0.toArray, I 171])) ∧ (¬ bs.length = sz4 m → e = .returned (.tuple #[.agg U0.toArray, I 170])))
end Go.Proofs.Ytlaanjcnfindnaa
