/- X5 -/
import Derived.Test.YtjookodjbjabbaaGreatDoorM0
import Derived.Test.YtjookodjbjabbaaGreatDoorRows
namespace Go.Proofs.YtjookodjbjabbaaGreatDoor
open Go.Proofs.Tryz
open Go.RowKit
set_option maxRecDepth 100000
def HFP:L6:=[0xdcff7fffffffd555#64,0xf55ffff58a9ffff#64,0xb39869507b587b12#64,0xb23ba5c279c2895f#64,0x258dd3db21a5d66b#64,0xd0088f51cbff34d#64]
def IVP:L6:=[0xb9feffffffffaaa9#64,0x1eabfffeb153ffff#64,0x6730d2a0f6b0f624#64,0x64774b84f38512bf#64,0x4b1ba7b6434bacd7#64,0x1a0111ea397fe69a#64]
def RTP:L6:=[0xee7fbfffffffeaab#64,0x7aaffffac54ffff#64,0xd9cc34a83dac3d89#64,0xd91dd2e13ce144af#64,0x92c6e9ed90d2eb35#64,0x680447a8e5ff9a6#64]
def KW:L3:=[0x428a2f98#32,0x71374491#32,0xb5c0fbcf#32,0xe9b5dba5#32,0x3956c25b#32,0x59f111f1#32,0x923f82a4#32,0xab1c5ed5#32,0xd807aa98#32,0x12835b01#32,0x243185be#32,0x550c7dc3#32,0x72be5d74#32,0x80deb1fe#32,0x9bdc06a7#32,0xc19bf174#32,0xe49b69c1#32,0xefbe4786#32,0xfc19dc6#32,0x240ca1cc#32,0x2de92c6f#32,0x4a7484aa#32,0x5cb0a9dc#32,0x76f988da#32,0x983e5152#32,0xa831c66d#32,0xb00327c8#32,0xbf597fc7#32,0xc6e00bf3#32,0xd5a79147#32,0x6ca6351#32,0x14292967#32,0x27b70a85#32,0x2e1b2138#32,0x4d2c6dfc#32,0x53380d13#32,0x650a7354#32,0x766a0abb#32,0x81c2c92e#32,0x92722c85#32,0xa2bfe8a1#32,0xa81a664b#32,0xc24b8b70#32,0xc76c51a3#32,0xd192e819#32,0xd6990624#32,0xf40e3585#32,0x106aa070#32,0x19a4c116#32,0x1e376c08#32,0x2748774c#32,0x34b0bcb5#32,0x391c0cb3#32,0x4ed8aa4a#32,0x5b9cca4f#32,0x682e6ff3#32,0x748f82ee#32,0x78a5636f#32,0x84c87814#32,0x8cc70208#32,0x90befffa#32,0xa4506ceb#32,0xbef9a3f7#32,0xc67178f2#32]
theorem KI:V HFP 6=(PP-1) / 2:=by decide+kernel
theorem I1:V IVP 6=PP-2:=by decide+kernel
theorem J8:V RTP 6=(PP+1) / 4:=by decide+kernel
structure Gt(w:World):Prop where
 g0:w.rangeAt 0 0 (LIFT.map U64)
 g1:w.rangeAt 1 0 (ML.map U64)
 g2:w.rangeAt 2 0 (HFP.map U64)
 g3:w.rangeAt 3 0 (PL.map U64)
 g4:w.rangeAt 4 0 (IVP.map U64)
 g5:w.rangeAt 5 0 (TWO.map U64)
 g6:w.rangeAt 6 0 (RTP.map U64)
 g7:w.rangeAt 7 0 (KW.map U32)
theorem eV{w w':World}{b:Nat}{cs:List Value}(hk:w'.heap[b]? =w.heap[b]?)(h:w.rangeAt b 0 cs):w'.rangeAt b 0 cs:=λj v hv=>by
 rw[World.cell?_of_block (w:=w) hk];exact h j v hv
abbrev PUR:=lZ prog Gt
abbrev CLS:=Calls prog
theorem gt_low:GLow Gt 8 where
 size:=λw h=>by
  have:=block_lt_of_cell (h.g7 0 _ (by rfl:(KW.map U32)[0]? =some (U32 0x428a2f98#32)))
  exact this
 same:=λw w' hk h=>⟨eV (hk 0 om) h.g0,eV (hk 1 om) h.g1,eV (hk 2 om) h.g2,eV (hk 3 om) h.g3,eV (hk 4 om) h.g4,eV (hk 5 om) h.g5,eV (hk 6 om) h.g6,eV (hk 7 om) h.g7⟩
theorem cY:prog.follows .mixedOrders=true:=kr
end Go.Proofs.YtjookodjbjabbaaGreatDoor
