/- Layer 22: PersonSeen: its three ways together. -/
import Derived.Test.YteepgklilhljiaaDoorPersM
import Derived.Test.YteepgklilhljiaaDoorPersO
namespace Go.Proofs.YteepgklilhljiaaDoor
open Go.RowKit Go.Shelf

theorem personSeen_walk (i1 : Int) (n1 u1 h1 r1 a1 : ByteArray) (o1 d1 : Bool) (si1 sp1 : Int) (i2 : Int) (n2 u2 h2 r2 a2 : ByteArray) (o2 d2 : Bool) (si2 sp2 : Int) (i3 : Int) (op vo : Bool) (mask : ByteArray) (w : World) :
    Calls Tryd.prog 4 #[per i1 n1 u1 h1 r1 a1 o1 d1 si1 sp1, per i2 n2 u2 h2 r2 a2 o2 d2 si2 sp2, memb i3 op vo, .string mask] w fun e w' => e = .returned (.bool true) ∧ Below w.heap.size w w' := by
  by_cases hg : 200 < n2.size ∨ 200 < u2.size ∨ 200 < h2.size ∨ 200 < r2.size ∨ 200 < a2.size
  · exact personSeen_great i1 n1 u1 h1 r1 a1 o1 d1 si1 sp1 i2 n2 u2 h2 r2 a2 o2 d2 si2 sp2 i3 op vo mask w hg
  · by_cases hm : 30 < mask.size
    · exact personSeen_long i1 n1 u1 h1 r1 a1 o1 d1 si1 sp1 i2 n2 u2 h2 r2 a2 o2 d2 si2 sp2 i3 op vo mask w hg hm
    · exact personSeen_main i1 n1 u1 h1 r1 a1 o1 d1 si1 sp1 i2 n2 u2 h2 r2 a2 o2 d2 si2 sp2 i3 op vo mask w hg (by omega)
end Go.Proofs.YteepgklilhljiaaDoor
