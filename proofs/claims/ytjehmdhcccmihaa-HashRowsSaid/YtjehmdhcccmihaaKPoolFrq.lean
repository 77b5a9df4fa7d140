/-
  sums behind its Wait, as the walk to it and the walk behind it name it.
-/
import Derived.Test.YtjehmdhcccmihaaKPoolCb
import Derived.Test.YtjehmdhcccmihaaKPoolOut
namespace Go.Proofs.Ytjehmdhcccmihaa.Pool
open Go.Conc Go.RowKit Hs
/-- sums behind Wait, as the walk behind it names it -/
theorem frQ_sm (M : Nat) (A : Option Addr) (cap : Nat) (ps : List ByteArray) (nW : Nat) (v7 v8 v9 v10 v11 v12 v17 v18 v19 v20 v24 v25 v26 v27 v28 v29 : Value) : ∃ u0 u1 u2 u4 u5 u6 u7 u8 u9 u10 u11 u12 u13 u14 u15 u16 u17 u18 u19 u20 u21 u22 u23 u24 u25 u26 u27 u28 u29 u30 u31,
    frQ' M A cap ps nW v7 v8 v9 v10 v11 v12 v17 v18 v19 v20 v24 v25 v26 v27 v28 v29 = smF u0 u1 u2 u4 u5 u6 u7 u8 u9 u10 u11 u12 u13 u14 u15 u16 u17 u18 u19 u20 u21 u22 u23 u24 u25 u26 u27 u28 u29 u30 u31 (M + 2) :=
  ⟨_, _, _, _, _, _, _, _, _, _, _, _, _, _, _, _, _, _, _, _, _, _, _, _, _, _, _, _, _, _, _, rfl⟩
end Go.Proofs.Ytjehmdhcccmihaa.Pool
