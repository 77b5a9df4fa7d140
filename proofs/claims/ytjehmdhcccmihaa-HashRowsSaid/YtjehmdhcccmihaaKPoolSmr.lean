/-
  The rest of sums, behind Wait: it answers what its box holds.
-/
import Derived.Test.YtjehmdhcccmihaaKPoolRest
import Derived.Test.YtjehmdhcccmihaaRows
import Derived.WalkKit
import Derived.WalkSpells
import Derived.Lib.Hide
namespace Go.Proofs.Ytjehmdhcccmihaa.Pool
open Go.RowKit Lift

noncomputable def smsParts : Array Oper × List Code := match Try.f16.body with
  | some (.seq _ (.seq _ (.seq _ (.seq _ (.seq _ (.seq _ (.seq _ (.seq _ (.seq (.region _ ops _) c1))))))))) => (ops, [c1])
  | _ => (#[], [])
set_option maxHeartbeats 1000000 in
set_option maxRecDepth 100000 in
theorem sums_rest (u0 u1 u2 u4 u5 u6 u7 u8 u9 u10 u11 u12 u13 u14 u15 u16 u17 u18 u19 u20 u21 u22 u23 u24 u25 u26 u27 u28 u29 u30 u31 : Value) (b m n k : Nat) (w : World) (hb : w.cell? ⟨b, 0, none⟩ = some (.slice (some ⟨m, 0, none⟩) n k)) :
    wpList Try.prog smsParts.1 (restPost Try.prog Try.f16 (fun e w' => e = .returned (.slice (some ⟨m, 0, none⟩) n k) ∧ w' = w) smsParts.2) (smsParts.1.toList.drop 1)
      { tmps := #[u0, u1, u2, .pointer (some ⟨b, 0, none⟩), u4, u5, u6, u7, u8, u9, u10, u11, u12, u13, u14, u15, u16, u17, u18, u19, u20, u21, u22, u23, u24, u25, u26, u27, u28, u29, u30, u31], defers := [] } w := by
  obtain ⟨F, hF⟩ : ∃ F, F = Try.f16 := ⟨_, rfl⟩
  rw [← hF]
  have HF := Lib.hid hF
  clear hF
  simp only [smsParts, Try.f16]
  simp only [List.drop, List.drop_succ_cons, List.drop_zero]
  go_wp2_with fail
  show Code.wp Try.prog _ (restPost Try.prog F _ _) _ _
  rw [HF.out]
  go_wp2_with fail
  go_ret
  exact ⟨rfl, rfl⟩
end Go.Proofs.Ytjehmdhcccmihaa.Pool
