/-
  The document's reader: aggregates, the end; sizes.
-/
import Derived.Test.YtlaanjcnfindnaaVF
namespace Go.Proofs.Ytlaanjcnfindnaa
open Go.RowKit
set_option maxRecDepth 100000
set_option maxHeartbeats 1000000

def Z96 : By := List.replicate 96 0#8
def Ag0 : List Value := .slice none 0 0 :: Z96.map U8
end Go.Proofs.Ytlaanjcnfindnaa
