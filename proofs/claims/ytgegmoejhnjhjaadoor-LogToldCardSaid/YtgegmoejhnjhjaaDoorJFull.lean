/- Unpack of any bytes, and Pack of any record: one contract each. -/
import Derived.Test.YtgegmoejhnjhjaaDoorJTold1
import Derived.Test.YtgegmoejhnjhjaaDoorJUnpack
namespace Go.Proofs.YtgegmoejhnjhjaaDoor.JFull
open Go.RowKit WMem WPlain WAny WCrc JPlain JMem JBody JPack JPackFace JTold JTold1 JRead JUnpack

theorem told1_is : Told1 := fun seq xs N h1 h2 hl hx g w hR => callsIn_wide.1 (told_1in seq xs N h1 h2 hl hx g w hR)
theorem Unpack_full (n : Nat) (b : List UInt8) (hn : b.length = n) (B : Nat) (A : Option Addr) (c : Nat) (hc : n ≤ c) (w : World) (hB : B ≤ w.heap.size) (hA : Sl w B A (b.map u8v)) (hT : Tab w) :
    Calls Tryd.prog 14 #[.slice A n c] w (UnpackR b w) :=
  Unpack_at n b hn (fun _ => told1_is) B A c hc w hB hA hT
end Go.Proofs.YtgegmoejhnjhjaaDoor.JFull
