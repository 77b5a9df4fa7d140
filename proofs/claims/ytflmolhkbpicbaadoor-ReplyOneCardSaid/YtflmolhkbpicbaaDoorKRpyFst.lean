/-
  The readers by their signs: a map of functions.
-/
import Derived.Test.YtflmolhkbpicbaaDoorKRpyLis
import Derived.Maps.OwnSet
namespace Go.Proofs.YtflmolhkbpicbaaDoor
open Go.RowKit Go.Maps
namespace Ry

abbrev Dt := DataW Value
/-- an element reads as itself -/
def elemV (v : Value) : Option (Dt × List MemPlace) := some (.held v, [])
def kl8 (z : Nat) : Lit := .int .u8 z
set_option maxRecDepth 100000 in
theorem kl8_wf {z : Nat} (h : z < 256) : (Lit.int .u8 z).wf = true := by
  simp only [Lit.wf, show IntKind.u8.min = 0 from rfl, show IntKind.u8.max = 255 from rfl, Bool.and_eq_true, decide_eq_true_eq]
  omega
set_option maxRecDepth 100000 in
theorem key8 {z : Nat} (h : z < 256) : keyOf Tryd.prog 5 (.int .u8 z) = some (kl8 z) := Go.Maps.keyOf_int_mk Tryd.underlying5 (kl8_wf h)
set_option maxRecDepth 100000 in
theorem klaw8 : Keyed Tryd.prog 5 := int_keyed Tryd.underlying5
set_option maxRecDepth 100000 in
theorem kl8_key {z : Nat} (h : z < 256) : WideAt.IsKeyLit (kl8 z) := klaw8.key (key8 h)
set_option maxRecDepth 100000 in
theorem kl8_ne {a b : Nat} (h : a ≠ b) : kl8 a ≠ kl8 b := fun e => by
  unfold kl8 at e
  injection e with _ e
  exact h (by exact_mod_cast e)
/-- what reads behind a sign -/
def sgV (c : Nat) : Value := if c = 43 then fnv 53 else if c = 45 then fnv 56 else if c = 58 then fnv 57 else if c = 36 then fnv 59 else if c = 42 then fnv 60 else .nilFunc
def sgD : Dt := (((((DataW.map [] : Dt).put (kl8 43) (.held (fnv 53))).put (kl8 45) (.held (fnv 56))).put (kl8 58) (.held (fnv 57))).put (kl8 36) (.held (fnv 59))).put (kl8 42) (.held (fnv 60))
set_option maxRecDepth 100000 in
theorem sgD_at (c : Nat) (hc : c < 256) : sgD.atKey (kl8 c) (.held .nilFunc) = .held (sgV c) := by
  have e0 : IsMap (DataW.map [] : Dt) := isMap_empty
  unfold sgD
  by_cases h5 : c = 42
  · subst h5; rw [Maps.atKey_put_same ((((e0.put _ _).put _ _).put _ _).put _ _) (kl8_key (by decide))]; rfl
  rw [Maps.atKey_put_other (kl8_ne h5)]
  by_cases h4 : c = 36
  · subst h4; rw [Maps.atKey_put_same (((e0.put _ _).put _ _).put _ _) (kl8_key (by decide))]; rfl
  rw [Maps.atKey_put_other (kl8_ne h4)]
  by_cases h3 : c = 58
  · subst h3; rw [Maps.atKey_put_same ((e0.put _ _).put _ _) (kl8_key (by decide))]; rfl
  rw [Maps.atKey_put_other (kl8_ne h3)]
  by_cases h2 : c = 45
  · subst h2; rw [Maps.atKey_put_same (e0.put _ _) (kl8_key (by decide))]; rfl
  rw [Maps.atKey_put_other (kl8_ne h2)]
  by_cases h1 : c = 43
  · subst h1; rw [Maps.atKey_put_same e0 (kl8_key (by decide))]; rfl
  rw [Maps.atKey_put_other (kl8_ne h1)]
  unfold sgV
  rw [if_neg h1, if_neg h2, if_neg h3, if_neg h4, if_neg h5]
  rfl
abbrev SgM (w : World) (b : Nat) : Prop := w.ownsMap Tryd.prog 5 elemV b 5 sgD
set_option maxRecDepth 100000 in
theorem look_is {w : World} {b : Nat} (h : SgM w b) (c : Nat) (hc : c < 256) : (Instr.lookup 72 (.map (some b)) (.int .u8 c) false).run Tryd.prog w = .ok (sgV c) w := by
  obtain ⟨v, ps, hr, hv⟩ := World.ownsMap.lookup h klaw8 Tryd.underlying72 (Tryd.zeroValue71 w) (zd := .held .nilFunc) (zp := []) rfl (key8 hc)
  rw [sgD_at c hc] at hv
  unfold elemV at hv
  injection hv with hv
  injection hv with hv _
  injection hv with hv
  rw [hr, hv]

set_option maxRecDepth 100000 in
theorem wpList_insert_own {w : World} {ops : Array Oper} {rest : List Oper} {o : Oper} {a : Go.Act} {Q : Exit → Go.Act → World → Prop}
    (hg : o.guard = none) (m x v : Operand) (hop : o.op = Op.insert 72 m x v) (b n : Nat) (D : Dt)
    (hm : a.eval m = .map (some b)) (hown : w.ownsMap Tryd.prog 5 elemV b n D) (hn : n < maxLen) (z : Nat) (hz : z < 256) (val : Value) (hx : a.eval x = .int .u8 z) (hv : a.eval v = val)
    (hK : ∀ w', w'.ownsMap Tryd.prog 5 elemV b (n + 1) (D.put (kl8 z) (.held val)) → w.grownBy w' (some b) → wpList Tryd.prog ops Q rest (a.put o.dst undef) w') :
    wpList Tryd.prog ops Q (o :: rest) a w := by
  refine wpList_plain hg fun K' hK' => ?_
  obtain ⟨w', hrun, r1, r2⟩ := hown.update klaw8 Tryd.underlying72 hn (key8 hz) (val := val) (d := .held val) (ps := []) rfl
  unfold Oper.wp
  simp [execOp, hop, hm, hx, hv, hrun, Result.andThen]
  exact hK' _ _ (hK w' r1 r2)

set_option maxRecDepth 100000 in
set_option maxHeartbeats 2000000 in
theorem signs_own (w : World) :
    Calls Tryd.prog 43 #[] w fun x w' => ∃ b, x = .returned (.map (some b)) ∧ SgM w' b ∧ Below w.heap.size w w' := by
  have hmm := @run_makeMap Tryd.prog
  have h0 := Lib.hid (World.ownsMap_made w Tryd.prog 5 elemV)
  have B0 := Lib.hid ((Below.refl w.heap.size w).alloc (Nat.le_refl _) (.map #[] 0))
  go_enter Tryd.func43, Tryd.ntmps43
  go_wp2_with (refine wpList_insert_own rfl _ _ _ rfl w.heap.size 0 _ rfl h0.out (by decide) 43 (by decide) _ rfl rfl ?_)
  intro w1 h1 g1
  have H1 := Lib.hid h1
  have B1 := Lib.hid (B0.out.grown g1 (by simp) (fun k hk => by cases hk; exact Nat.le_refl _))
  clear h1 g1 h0 B0 hmm
  go_wp2_with (refine wpList_insert_own rfl _ _ _ rfl w.heap.size 1 _ rfl H1.out (by decide) 45 (by decide) _ rfl rfl ?_)
  intro w2 h1 g1
  have H2 := Lib.hid h1
  have B2 := Lib.hid (B1.out.grown g1 B1.out.size (fun k hk => by cases hk; exact Nat.le_refl _))
  clear h1 g1 H1 B1
  go_wp2_with (refine wpList_insert_own rfl _ _ _ rfl w.heap.size 2 _ rfl H2.out (by decide) 58 (by decide) _ rfl rfl ?_)
  intro w3 h1 g1
  have H3 := Lib.hid h1
  have B3 := Lib.hid (B2.out.grown g1 B2.out.size (fun k hk => by cases hk; exact Nat.le_refl _))
  clear h1 g1 H2 B2
  go_wp2_with (refine wpList_insert_own rfl _ _ _ rfl w.heap.size 3 _ rfl H3.out (by decide) 36 (by decide) _ rfl rfl ?_)
  intro w4 h1 g1
  have H4 := Lib.hid h1
  have B4 := Lib.hid (B3.out.grown g1 B3.out.size (fun k hk => by cases hk; exact Nat.le_refl _))
  clear h1 g1 H3 B3
  go_wp2_with (refine wpList_insert_own rfl _ _ _ rfl w.heap.size 4 _ rfl H4.out (by decide) 42 (by decide) _ rfl rfl ?_)
  intro w5 h1 g1
  have H5 := Lib.hid h1
  have B5 := Lib.hid (B4.out.grown g1 B4.out.size (fun k hk => by cases hk; exact Nat.le_refl _))
  clear h1 g1 H4 B4
  go_wp2
  go_ret
  exact ⟨_, rfl, H5.out, B5.out⟩
end Ry
end Go.Proofs.YtflmolhkbpicbaaDoor
