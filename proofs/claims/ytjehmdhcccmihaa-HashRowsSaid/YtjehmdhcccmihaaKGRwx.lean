/-
  HashRows at its three calls of Spread, and between them.
-/
import Derived.Test.YtjehmdhcccmihaaKGSph
import Derived.Test.YtjehmdhcccmihaaKPoolPra
import Derived.Laws.AppendOwnNone
import Derived.Test.YtjehmdhcccmihaaKPoolEar
namespace Go.Proofs.Ytjehmdhcccmihaa.Pool
open Go.Conc Go.ConcN Go.RowKit Go.Conc.Lib Go.ConcX.Gen Hs
open Go.ConcR (KK wgBlock WgAt stA smA rd wr mk Payload Aside2 DC0)
noncomputable def rwP1 : Array Oper × List Code := match Try.f5.body with
  | some (.seq _ (.seq _ (.seq _ (.seq _ (.seq _ (.seq _ (.seq (.region _ ops _) c1))))))) => (ops, [c1])
  | _ => (#[], [])
noncomputable def rwP2 : Array Oper × List Code := match Try.f5.body with
  | some (.seq _ (.seq _ (.seq _ (.seq _ (.seq _ (.seq _ (.seq _ (.seq (.region _ ops _) c1)))))))) => (ops, [c1])
  | _ => (#[], [])
noncomputable def rwP3 : Array Oper × List Code := match Try.f5.body with
  | some (.seq _ (.seq _ (.seq _ (.seq _ (.seq _ (.seq _ (.seq _ (.seq _ (.seq (.region _ ops _) c1))))))))) => (ops, [c1])
  | _ => (#[], [])
/-- the law, at its call 1 of Spread -/
noncomputable def rwF1 (u3 u4 u5 u14 u15 u16 u17 u18 u19 u20 u21 u22 u23 u24 u25 u26 u27 u28 u29 u30 u31 u32 u33 u34 u35 u36 u37 u38 : Value) (A B C : Option Addr) (na ca nb cb nc cc : Nat) (x k : Int) : Frame := (blank 5).at { tmps := #[.slice A na ca, .slice B nb cb, .int .u8 x, u3, u4, u5, .bool false, .slice C nc cc, .int .i64 k, undef, undef, undef, undef, undef, u14, u15, u16, u17, u18, u19, u20, u21, u22, u23, u24, u25, u26, u27, u28, u29, u30, u31, u32, u33, u34, u35, u36, u37, u38, .slice A na ca, .int .i64 k, undef, undef, undef, undef, undef, undef, undef, undef, undef, undef, undef, undef, undef, undef, undef, undef, undef, undef, undef, undef, undef, undef, undef, undef, undef, undef, undef, undef, undef, undef, undef, undef, undef, undef, undef, undef, undef, undef, undef, undef, undef, undef, undef, undef, undef, undef, undef, undef], defers := [] } (.inRegion rwP1.1 (2 :: List.range' 3 (rwP1.1.toList.drop 3).length) :: rwP1.2.map .code)
theorem rwP1_dst : (rwP1.1[2]?).bind (·.dst) = some 41 := by kernel_rfl
/-- the law, at its call 2 of Spread -/
noncomputable def rwF2 (u3 u4 u5 u14 u15 u16 u17 u18 u19 u20 u21 u22 u23 u24 u25 u26 u27 u28 u29 u30 u31 u32 u33 u34 u35 u36 u37 u38 : Value) (A B C : Option Addr) (na ca nb cb nc cc : Nat) (x k : Int) (v : Value) : Frame := (blank 5).at { tmps := #[.slice A na ca, .slice B nb cb, .int .u8 x, u3, u4, u5, .bool false, .slice C nc cc, .int .i64 k, v, undef, undef, undef, undef, u14, u15, u16, u17, u18, u19, u20, u21, u22, u23, u24, u25, u26, u27, u28, u29, u30, u31, u32, u33, u34, u35, u36, u37, u38, .slice A na ca, .int .i64 k, v, .slice B nb cb, .int .i64 k, undef, undef, undef, undef, undef, undef, undef, undef, undef, undef, undef, undef, undef, undef, undef, undef, undef, undef, undef, undef, undef, undef, undef, undef, undef, undef, undef, undef, undef, undef, undef, undef, undef, undef, undef, undef, undef, undef, undef, undef, undef, undef, undef, undef, undef], defers := [] } (.inRegion rwP2.1 (2 :: List.range' 3 (rwP2.1.toList.drop 3).length) :: rwP2.2.map .code)
theorem rwP2_dst : (rwP2.1[2]?).bind (·.dst) = some 44 := by kernel_rfl
/-- the law, at its call 3 of Spread -/
noncomputable def rwF3 (u3 u4 u5 u14 u15 u16 u17 u18 u19 u20 u21 u22 u23 u24 u25 u26 u27 u28 u29 u30 u31 u32 u33 u34 u35 u36 u37 u38 : Value) (A B C : Option Addr) (na ca nb cb nc cc : Nat) (x k : Int) (v v2 : Value) : Frame := (blank 5).at { tmps := #[.slice A na ca, .slice B nb cb, .int .u8 x, u3, u4, u5, .bool false, .slice C nc cc, .int .i64 k, v, v2, undef, undef, undef, u14, u15, u16, u17, u18, u19, u20, u21, u22, u23, u24, u25, u26, u27, u28, u29, u30, u31, u32, u33, u34, u35, u36, u37, u38, .slice A na ca, .int .i64 k, v, .slice B nb cb, .int .i64 k, v2, .slice C nc cc, .int .i64 k, undef, undef, undef, undef, undef, undef, undef, undef, undef, undef, undef, undef, undef, undef, undef, undef, undef, undef, undef, undef, undef, undef, undef, undef, undef, undef, undef, undef, undef, undef, undef, undef, undef, undef, undef, undef, undef, undef, undef, undef, undef, undef], defers := [] } (.inRegion rwP3.1 (2 :: List.range' 3 (rwP3.1.toList.drop 3).length) :: rwP3.2.map .code)
theorem rwP3_dst : (rwP3.1[2]?).bind (·.dst) = some 47 := by kernel_rfl
theorem rwF1_finish (u3 u4 u5 u14 u15 u16 u17 u18 u19 u20 u21 u22 u23 u24 u25 u26 u27 u28 u29 u30 u31 u32 u33 u34 u35 u36 u37 u38 : Value) (A B C : Option Addr) (na ca nb cb nc cc : Nat) (x k : Int) (v : Value) : (rwF1 u3 u4 u5 u14 u15 u16 u17 u18 u19 u20 u21 u22 u23 u24 u25 u26 u27 u28 u29 u30 u31 u32 u33 u34 u35 u36 u37 u38 A B C na ca nb cb nc cc x k).finish v = (blank 5).at { tmps := #[.slice A na ca, .slice B nb cb, .int .u8 x, u3, u4, u5, .bool false, .slice C nc cc, .int .i64 k, undef, undef, undef, undef, undef, u14, u15, u16, u17, u18, u19, u20, u21, u22, u23, u24, u25, u26, u27, u28, u29, u30, u31, u32, u33, u34, u35, u36, u37, u38, .slice A na ca, .int .i64 k, v, undef, undef, undef, undef, undef, undef, undef, undef, undef, undef, undef, undef, undef, undef, undef, undef, undef, undef, undef, undef, undef, undef, undef, undef, undef, undef, undef, undef, undef, undef, undef, undef, undef, undef, undef, undef, undef, undef, undef, undef, undef, undef, undef, undef, undef, undef, undef], defers := [] } (.inRegion rwP1.1 (List.range' 3 (rwP1.1.toList.drop 3).length) :: rwP1.2.map .code) := by
  unfold rwF1 Frame.at Frame.finish
  simp only [rwP1_dst]
  rfl
theorem rwF2_finish (u3 u4 u5 u14 u15 u16 u17 u18 u19 u20 u21 u22 u23 u24 u25 u26 u27 u28 u29 u30 u31 u32 u33 u34 u35 u36 u37 u38 : Value) (A B C : Option Addr) (na ca nb cb nc cc : Nat) (x k : Int) (v : Value) (v2 : Value) : (rwF2 u3 u4 u5 u14 u15 u16 u17 u18 u19 u20 u21 u22 u23 u24 u25 u26 u27 u28 u29 u30 u31 u32 u33 u34 u35 u36 u37 u38 A B C na ca nb cb nc cc x k v).finish v2 = (blank 5).at { tmps := #[.slice A na ca, .slice B nb cb, .int .u8 x, u3, u4, u5, .bool false, .slice C nc cc, .int .i64 k, v, undef, undef, undef, undef, u14, u15, u16, u17, u18, u19, u20, u21, u22, u23, u24, u25, u26, u27, u28, u29, u30, u31, u32, u33, u34, u35, u36, u37, u38, .slice A na ca, .int .i64 k, v, .slice B nb cb, .int .i64 k, v2, undef, undef, undef, undef, undef, undef, undef, undef, undef, undef, undef, undef, undef, undef, undef, undef, undef, undef, undef, undef, undef, undef, undef, undef, undef, undef, undef, undef, undef, undef, undef, undef, undef, undef, undef, undef, undef, undef, undef, undef, undef, undef, undef, undef], defers := [] } (.inRegion rwP2.1 (List.range' 3 (rwP2.1.toList.drop 3).length) :: rwP2.2.map .code) := by
  unfold rwF2 Frame.at Frame.finish
  simp only [rwP2_dst]
  rfl
theorem rwF3_finish (u3 u4 u5 u14 u15 u16 u17 u18 u19 u20 u21 u22 u23 u24 u25 u26 u27 u28 u29 u30 u31 u32 u33 u34 u35 u36 u37 u38 : Value) (A B C : Option Addr) (na ca nb cb nc cc : Nat) (x k : Int) (v v2 : Value) (v3 : Value) : (rwF3 u3 u4 u5 u14 u15 u16 u17 u18 u19 u20 u21 u22 u23 u24 u25 u26 u27 u28 u29 u30 u31 u32 u33 u34 u35 u36 u37 u38 A B C na ca nb cb nc cc x k v v2).finish v3 = (blank 5).at { tmps := #[.slice A na ca, .slice B nb cb, .int .u8 x, u3, u4, u5, .bool false, .slice C nc cc, .int .i64 k, v, v2, undef, undef, undef, u14, u15, u16, u17, u18, u19, u20, u21, u22, u23, u24, u25, u26, u27, u28, u29, u30, u31, u32, u33, u34, u35, u36, u37, u38, .slice A na ca, .int .i64 k, v, .slice B nb cb, .int .i64 k, v2, .slice C nc cc, .int .i64 k, v3, undef, undef, undef, undef, undef, undef, undef, undef, undef, undef, undef, undef, undef, undef, undef, undef, undef, undef, undef, undef, undef, undef, undef, undef, undef, undef, undef, undef, undef, undef, undef, undef, undef, undef, undef, undef, undef, undef, undef, undef, undef], defers := [] } (.inRegion rwP3.1 (List.range' 3 (rwP3.1.toList.drop 3).length) :: rwP3.2.map .code) := by
  unfold rwF3 Frame.at Frame.finish
  simp only [rwP3_dst]
  rfl

set_option maxRecDepth 100000 in
set_option maxHeartbeats 4000000 in
theorem rw_mid1 (u3 u4 u5 u14 u15 u16 u17 u18 u19 u20 u21 u22 u23 u24 u25 u26 u27 u28 u29 u30 u31 u32 u33 u34 u35 u36 u37 u38 : Value) (A B C : Option Addr) (na ca nb cb nc cc : Nat) (x k : Int) (v : Value) (ps : List ByteArray) (hn : nb = ps.length) {fr : Frame} (hb : Back 9 v fr) (w : World) :
    ∃ N, Goes Try.prog true AtRel DC0 (fun g w' => g = gSp B cb ps k [rwF2 u3 u4 u5 u14 u15 u16 u17 u18 u19 u20 u21 u22 u23 u24 u25 u26 u27 u28 u29 u30 u31 u32 u33 u34 u35 u36 u37 u38 A B C na ca nb cb nc cc x k v] ∧ AtRel w w') N (G fr [rwF1 u3 u4 u5 u14 u15 u16 u17 u18 u19 u20 u21 u22 u23 u24 u25 u26 u27 u28 u29 u30 u31 u32 u33 u34 u35 u36 u37 u38 A B C na ca nb cb nc cc x k]) w := by
  subst hn
  refine ⟨8, ?_⟩
  refine .inr ⟨rfl, fun w₁ h₁ => ?_⟩
  obtain ⟨d₁, rfl⟩ := h₁
  rw [back_step hb Try.func9 Try.results9, rwF1_finish, goes_go]
  refine ⟨⟨rfl, rfl⟩, ?_⟩
  simp only [rwP1, Try.f5, List.drop_succ_cons, List.drop_zero, List.drop_nil, List.length_cons, List.length_nil, List.range'_succ, List.range'_zero, List.map_cons, List.map_nil, Nat.reduceAdd, Nat.reduceSub]
  try walk_nrm
  l_op
  l_c stepG_region_end
  l_c stepG_seq
  l_reg
  l_op
  l_op
  l_call Try.func9 (by rfl) Try.f9
  rintro w₂ ⟨d₂, rfl⟩
  exact ⟨rfl, _, rfl⟩

set_option maxRecDepth 100000 in
set_option maxHeartbeats 4000000 in
theorem rw_mid2 (u3 u4 u5 u14 u15 u16 u17 u18 u19 u20 u21 u22 u23 u24 u25 u26 u27 u28 u29 u30 u31 u32 u33 u34 u35 u36 u37 u38 : Value) (A B C : Option Addr) (na ca nb cb nc cc : Nat) (x k : Int) (v : Value) (v2 : Value) (ps : List ByteArray) (hn : nc = ps.length) {fr : Frame} (hb : Back 9 v2 fr) (w : World) :
    ∃ N, Goes Try.prog true AtRel DC0 (fun g w' => g = gSp C cc ps k [rwF3 u3 u4 u5 u14 u15 u16 u17 u18 u19 u20 u21 u22 u23 u24 u25 u26 u27 u28 u29 u30 u31 u32 u33 u34 u35 u36 u37 u38 A B C na ca nb cb nc cc x k v v2] ∧ AtRel w w') N (G fr [rwF2 u3 u4 u5 u14 u15 u16 u17 u18 u19 u20 u21 u22 u23 u24 u25 u26 u27 u28 u29 u30 u31 u32 u33 u34 u35 u36 u37 u38 A B C na ca nb cb nc cc x k v]) w := by
  subst hn
  refine ⟨8, ?_⟩
  refine .inr ⟨rfl, fun w₁ h₁ => ?_⟩
  obtain ⟨d₁, rfl⟩ := h₁
  rw [back_step hb Try.func9 Try.results9, rwF2_finish, goes_go]
  refine ⟨⟨rfl, rfl⟩, ?_⟩
  simp only [rwP2, Try.f5, List.drop_succ_cons, List.drop_zero, List.drop_nil, List.length_cons, List.length_nil, List.range'_succ, List.range'_zero, List.map_cons, List.map_nil, Nat.reduceAdd, Nat.reduceSub]
  try walk_nrm
  l_op
  l_c stepG_region_end
  l_c stepG_seq
  l_reg
  l_op
  l_op
  l_call Try.func9 (by rfl) Try.f9
  rintro w₂ ⟨d₂, rfl⟩
  exact ⟨rfl, _, rfl⟩
end Go.Proofs.Ytjehmdhcccmihaa.Pool
/-
  append of texts as one step of goroutine 0: what it comes to, and that it lists nothing out of bounds.
-/
namespace Go.Proofs.Ytjehmdhcccmihaa.Pool
open Go.RowKit Go.Conc Hs Lift
theorem events_fine {α : Type} {P : Program} {t : Sem α} (hs : ∀ E, Sim P E t) {w w' : World} {v : α} (hr : t.run P w = .ok v w') : w.heap.size ≤ w'.heap.size ∧ ∀ e ∈ t.events P w #[], EvL (fun _ => False) w'.heap.size e := by
  obtain ⟨wc', es, h1, hm⟩ := hs ⟨fun _ => False, w'.drawn, w.drawn, w.drawn⟩ w w ⟨rfl, rfl, fun _ _ _ => rfl, rfl, rfl, fun _ _ => rfl, fun _ hb => hb.elim⟩ v w' hr (Nat.le_refl _)
  have h2 := h1 #[]
  have h3 := Sem.runT_fst P t w #[]
  rw [h2, hr] at h3
  injection h3 with _ h3
  subst h3
  refine ⟨hm.size, fun e he => ?_⟩
  have h4 : t.events P w #[] = es := by unfold Sem.events; rw [h2]; simp
  rw [h4] at he
  have h5 := evL_fine (hm.fine e he)
  exact ⟨fun _ _ h => h.elim, h5.2⟩
theorem run_append_str {w : World} {ty : TypeId} {base : Nat} {v : Value} {l : List ByteArray} (hown : SRow w base v l) {A : Option Addr} {cap : Nat} {ps : List ByteArray} (hT : Texts w A ps) (hnil : A = none → ps.length = 0 ∧ cap = 0)
    (hb : l.length + ps.length ≤ 1099511627776) (hbase : base ≤ w.heap.size) :
    ∃ v' w', (Builtin.append_ #[22, 22] ty #[v, .slice A ps.length cap]).run Try.prog w = .ok v' w' ∧ SRow w' base v' (l ++ ps) ∧ w.grownBy w' v.ownBlock := by
  obtain ⟨i1, hj, hy0, hy1, hy2⟩ := str_parts
  cases A with
  | none =>
    obtain ⟨h1, rfl⟩ := hnil rfl
    obtain rfl : ps = [] := List.eq_nil_of_length_eq_zero h1
    exact ⟨v, w, run_append_owned_none w base 22 ty 9 i1 1 Try.underlying22 hj v _ _ hown, by simpa using hown, ⟨rfl, rfl, rfl, Nat.le_refl _, fun _ _ _ => rfl⟩⟩
  | some ad =>
    obtain ⟨v', w', h1, h2, h3, _⟩ := run_append_own (P := Try.prog) w base 22 ty 9 i1 (.string ⟨#[]⟩) 1 16 Try.underlying22 hj hy0 hy1 hy2 rfl (by decide) v l.length (l.map fun p => .string p) hown ad ps.length cap (ps.map fun p => .string p) (by simp)
      (fun j u hu => by
        have hj' : j < ps.length := by
          have := (List.getElem?_eq_some_iff.1 hu).1
          simpa using this
        obtain ⟨a', e, hc⟩ := hT j hj'
        injection e with e
        subst e
        rw [hc]
        simp [hj'] at hu
        rw [hu])
      (fun u hu => by
        obtain ⟨p, _, rfl⟩ := List.mem_map.1 hu
        rfl) (by unfold maxLen; omega) (by omega) hbase
    refine ⟨v', w', h1, ?_, h3⟩
    unfold SRow
    rw [List.length_append, List.map_append]
    exact h2
theorem wpList_append_strs {w : World} {ops : Array Oper} {rest : List Oper} {o : Oper} {a : Act} {Q : Exit → Act → World → Prop} (hgd : o.guard = none) (s x : Operand) (ho : o.op = .call { callee := .builtin .append, args := #[s, x], argTypes := #[22, 22] })
    (base : Nat) (v : Value) (l : List ByteArray) (hs : a.eval s = v) (hown : SRow w base v l) (A : Option Addr) (cap n : Nat) (ps : List ByteArray) (hx : a.eval x = .slice A n cap) (hn : n = ps.length) (hT : Texts w A ps) (hnil : A = none → ps.length = 0 ∧ cap = 0)
    (hb : l.length + ps.length ≤ 1099511627776) (hbase : base ≤ w.heap.size)
    (h : ∀ v' w', SRow w' base v' (l ++ ps) → w.grownBy w' v.ownBlock → wpList Try.prog ops Q rest (a.put o.dst v') w') : wpList Try.prog ops Q (o :: rest) a w := by
  subst hn
  refine wpList_plain hgd fun K hK => ?_
  obtain ⟨v', w', hr, h2, h3⟩ := run_append_str (ty := o.type) hown hT hnil hb hbase
  unfold Oper.wp execOp
  simp only [ho, resolve, invoke, builtin, Sem.run_bind, Sem.run_pure, Result.andThen_ok, List.map_toArray, List.map_cons, List.map_nil, hs, hx, hr]
  exact hK _ _ (h v' w' h2 h3)
/-- One step: append. -/
theorem append_go {b : Frame} {a : Act} {k : List Item} {cs : List Frame} {w : World} {ops : Array Oper} {i : Nat} {rest : List Nat} {o : Oper} (ho : ops[i]? = some o) (hw : Region.wanted o (yielded ops a.tmps) = true) (hk : b.kind ≠ .early)
    (hok : okOp Try.prog plainFns sameFns o = true) (s x : Operand) (hop : o.op = .call { callee := .builtin .append, args := #[s, x], argTypes := #[22, 22] })
    {base : Nat} {v : Value} {l : List ByteArray} (hs : a.eval s = v) (hown : SRow w base v l) {A : Option Addr} {cap : Nat} {ps : List ByteArray} (hx : a.eval x = .slice A ps.length cap) (hT : Texts w A ps) (hnil : A = none → ps.length = 0 ∧ cap = 0)
    (hb : l.length + ps.length ≤ 1099511627776) (hbase : base ≤ w.heap.size) :
    ∃ v' w' es, stepG Try.prog true (G (b.at a (.inRegion ops (i :: rest) :: k)) cs) w = .go (G (b.at (a.put o.dst v') (.inRegion ops rest :: k)) cs) w' es ∧ SRow w' base v' (l ++ ps) ∧ w.grownBy w' v.ownBlock ∧ DGrow (fun _ => False) w w' es := by
  obtain ⟨v', w', hr, h2, h3⟩ := run_append_str (ty := o.type) hown hT hnil hb hbase
  have hex : (execOp a.eval o).run Try.prog w = .ok (.value v') w' := by
    unfold execOp
    simp only [hop, resolve, invoke, builtin, Sem.run_bind, Sem.run_pure, Result.andThen_ok, List.map_toArray, List.map_cons, List.map_nil, hs, hx, hr]
  have hf := events_fine (fun E => (tame_execOp (E := E) closed.toKnown hok a.eval (fun f => rfl)).sim) hex
  exact ⟨v', w', _, stepG_value ho hw hk hex, h2, h3, hf.1, fun e he => hf.2 e (mem_listed he)⟩
/-- A walk that begins with one step. -/
theorem GW.one {P : Program} {D : World → World → Array Event → Prop} {Stop : Goroutine → World → Prop} {a : Goroutine} {w : World} (hs : a.status = .running) (h : ∀ w₁, AtRel w w₁ → ∃ a' w' es, stepG P true a w₁ = .go a' w' es ∧ D w₁ w' es ∧ GW P D Stop a' w') : GW P D Stop a w :=
  .step hs (fun w₁ h₁ => let ⟨a', w', es, h2, h3, _⟩ := h w₁ h₁; ⟨a', w', es, h2, h3⟩) fun w₁ a' w' es h₁ hgo => by
    obtain ⟨a2, w2, es2, h2, _, h4⟩ := h w₁ h₁
    rw [hgo] at h2
    cases h2
    exact h4
/-- A walk that turns nothing and lists nothing. -/
theorem GW.quiet {P : Program} {Shun : Loc → Prop} {Stop : Goroutine → World → Prop} {n : Nat} {a : Goroutine} {w : World} (h : Goes P true AtRel Go.ConcR.DC0 Stop n a w) : GW P (DGrow Shun) Stop a w :=
  GW.mono (GW.of_goes h) (fun w w' es h => ⟨by rw [h.1]; exact Nat.le_refl _, fun e he => by rw [h.2] at he; simp at he⟩) (fun _ _ h => h)
/-- A walk that begins with append. -/
theorem GW.append {b : Frame} {a : Act} {k : List Item} {cs : List Frame} {w : World} {ops : Array Oper} {i : Nat} {rest : List Nat} {o : Oper} {Stop : Goroutine → World → Prop} (ho : ops[i]? = some o) (hw : Region.wanted o (yielded ops a.tmps) = true) (hk : b.kind ≠ .early)
    (hok : okOp Try.prog plainFns sameFns o = true) (s x : Operand) (hop : o.op = .call { callee := .builtin .append, args := #[s, x], argTypes := #[22, 22] })
    {base : Nat} {v : Value} {l : List ByteArray} (hs : a.eval s = v) (hown : SRow w base v l) {A : Option Addr} {cap : Nat} {ps : List ByteArray} (hx : a.eval x = .slice A ps.length cap) (hT : Texts w A ps) (hnil : A = none → ps.length = 0 ∧ cap = 0)
    (hb : l.length + ps.length ≤ 1099511627776) (hbase : base ≤ w.heap.size)
    (hn : ∀ v' w', SRow w' base v' (l ++ ps) → w.grownBy w' v.ownBlock → GW Try.prog (DGrow (fun _ => False)) Stop (G (b.at (a.put o.dst v') (.inRegion ops rest :: k)) cs) w') :
    GW Try.prog (DGrow (fun _ => False)) Stop (G (b.at a (.inRegion ops (i :: rest) :: k)) cs) w :=
  GW.one rfl fun w₁ h₁ => by
    obtain ⟨d, rfl⟩ := h₁
    obtain ⟨v', w', es, h1, h2, h3, h4⟩ := append_go (w := w.at d) (cs := cs) (k := k) ho hw hk hok s x hop hs (show SRow (w.at d) base v l from hown) hx (show Texts (w.at d) A ps from hT) hnil hb hbase
    exact ⟨_, w', es, h1, h4, hn v' w' h2 ⟨h3.os, h3.tape, h3.output, h3.size, h3.block⟩⟩
end Go.Proofs.Ytjehmdhcccmihaa.Pool
/-
  HashRows from its entry to its first call of Spread.
-/
namespace Go.Proofs.Ytjehmdhcccmihaa.Pool
open Go.Conc Go.ConcN Go.RowKit Go.Conc.Lib Go.ConcX.Gen Hs
open Go.ConcR (KK wgBlock WgAt stA smA rd wr mk Payload Aside2 DC0)
noncomputable def rwP4 : Array Oper × List Code := match Try.f5.body with
  | some (.seq _ (.seq _ (.seq _ (.seq (.region _ ops _) c1)))) => (ops, [c1])
  | _ => (#[], [])
noncomputable def rwP5 : Array Oper × List Code := match Try.f5.body with
  | some (.seq _ (.seq _ (.seq _ (.seq _ (.seq (.region _ ops _) c1))))) => (ops, [c1])
  | _ => (#[], [])
noncomputable def bodyRw : Code := Try.f5.body.getD .skip
section
variable {A B : Option Addr} {ca cb : Nat} {ps qs : List ByteArray} {W w : World} {x : Int}
/-- ahead of the first append; ahead of the second -/
noncomputable def rwA (u14 u15 u16 u17 u18 u19 u20 u21 u22 u23 u24 u25 u26 u27 : Value) (A B : Option Addr) (ca cb : Nat) (ps qs : List ByteArray) (x : Int) : Goroutine := G ((blank 5).at { tmps := #[.slice A ps.length ca, .slice B qs.length cb, .int .u8 x, undef, undef, undef, .bool false, .slice none 0 0, undef, undef, undef, undef, undef, undef, u14, u15, u16, u17, u18, u19, u20, u21, u22, u23, u24, u25, u26, u27, undef, .slice none 0 0, .slice A ps.length ca, undef, undef, undef, undef, undef, undef, undef, undef, undef, undef, undef, undef, undef, undef, undef, undef, undef, undef, undef, undef, undef, undef, undef, undef, undef, undef, undef, undef, undef, undef, undef, undef, undef, undef, undef, undef, undef, undef, undef, undef, undef, undef, undef, undef, undef, undef, undef, undef, undef, undef, undef, undef, undef, undef, undef, undef, undef, undef], defers := [] } (.inRegion rwP4.1 [2, 3] :: rwP4.2.map .code)) []
noncomputable def rwB (u14 u15 u16 u17 u18 u19 u20 u21 u22 u23 u24 u25 u26 u27 : Value) (A B : Option Addr) (ca cb : Nat) (ps qs : List ByteArray) (x : Int) (v1 : Value) : Goroutine := G ((blank 5).at { tmps := #[.slice A ps.length ca, .slice B qs.length cb, .int .u8 x, undef, undef, undef, .bool false, v1, undef, undef, undef, undef, undef, undef, u14, u15, u16, u17, u18, u19, u20, u21, u22, u23, u24, u25, u26, u27, undef, .slice none 0 0, .slice A ps.length ca, v1, v1, .slice B qs.length cb, undef, undef, undef, undef, undef, undef, undef, undef, undef, undef, undef, undef, undef, undef, undef, undef, undef, undef, undef, undef, undef, undef, undef, undef, undef, undef, undef, undef, undef, undef, undef, undef, undef, undef, undef, undef, undef, undef, undef, undef, undef, undef, undef, undef, undef, undef, undef, undef, undef, undef, undef, undef, undef, undef, undef], defers := [] } (.inRegion rwP5.1 [2, 3] :: rwP5.2.map .code)) []

set_option maxRecDepth 100000 in
set_option maxHeartbeats 4000000 in
theorem rows_pre1 (hA : ∀ a, A = some a → a.block < W.heap.size) (hB : ∀ a, B = some a → a.block < W.heap.size) (hT : Texts W A ps) (hU : Texts W B qs) (hl : ps.length + qs.length ≤ 60) (hlo : long (bys ps) + long (bys qs) ≤ 600) :
    ∃ N, Goes Try.prog true AtRel (DB (fun _ => False) W.heap.size W.heap.size W.heap.size) (fun g w => ∃ u14 u15 u16 u17 u18 u19 u20 u21 u22 u23 u24 u25 u26 u27, g = rwA u14 u15 u16 u17 u18 u19 u20 u21 u22 u23 u24 u25 u26 u27 A B ca cb ps qs x ∧ AtRel W w) N
      (G ((base 5).at ⟨#[.slice A ps.length ca, .slice B qs.length cb, .int .u8 x, undef, undef, undef, undef, undef, undef, undef, undef, undef, undef, undef, undef, undef, undef, undef, undef, undef, undef, undef, undef, undef, undef, undef, undef, undef, undef, undef, undef, undef, undef, undef, undef, undef, undef, undef, undef, undef, undef, undef, undef, undef, undef, undef, undef, undef, undef, undef, undef, undef, undef, undef, undef, undef, undef, undef, undef, undef, undef, undef, undef, undef, undef, undef, undef, undef, undef, undef, undef, undef, undef, undef, undef, undef, undef, undef, undef, undef, undef, undef, undef, undef, undef, undef, undef, undef, undef], []⟩ [.code bodyRw]) []) W := by
  obtain ⟨nl, hlong⟩ := long_c (Shun := fun _ => False) (B := W.heap.size) (C := W.heap.size) (G := W.heap.size) A ca ps (by omega) (fun _ _ _ h => h) (fun a e => by have := hA a e; omega)
  obtain ⟨nm, hlonh⟩ := long_c (Shun := fun _ => False) (B := W.heap.size) (C := W.heap.size) (G := W.heap.size) B cb qs (by omega) (fun _ _ _ h => h) (fun a e => by have := hB a e; omega)
  have h60 : ¬ ((60 : Int) < (ps.length : Int) + (qs.length : Int)) := by omega
  have h600 : ¬ ((600 : Int) < ((long (bys ps) : Nat) : Int) + ((long (bys qs) : Nat) : Int)) := by omega
  have hw1 : IntKind.i64.wrap (((long (bys ps) : Nat) : Int) + ((long (bys qs) : Nat) : Int)) = ((long (bys ps) : Nat) : Int) + ((long (bys qs) : Nat) : Int) := by rw [IntKind.wrap_i64]; omega
  have hw2 : IntKind.i64.wrap ((ps.length : Int) + (qs.length : Int)) = (ps.length : Int) + (qs.length : Int) := by rw [IntKind.wrap_i64]; omega
  refine ⟨(((30 + nm + 3) + 1) + nl + 3) + 8, ?_⟩
  simp only [bodyRw, Try.f5, Option.getD_some]
  l_c stepG_seq
  l_reg
  l_op
  l_c stepG_region_end
  l_c stepG_seq
  l_c stepG_seq
  l_reg
  l_op
  refine Goes.call (nf := nl) termsB rfl rfl (by decide) rfl (by walk_nrm; exact hlong _ hT) (fun v w' hp => ?_)
  obtain ⟨rfl, hs⟩ := hp
  obtain ⟨d1, rfl⟩ := at_since hs
  clear hs
  simp only [at_at]
  walk_nrm
  l_op
  refine Goes.call (nf := nm) termsB rfl rfl (by decide) rfl (by walk_nrm; exact hlonh _ hU) (fun v w' hp => ?_)
  obtain ⟨rfl, hs⟩ := hp
  obtain ⟨d2, rfl⟩ := at_since hs
  clear hs
  simp only [at_at]
  walk_nrm
  l_op
  l_op
  l_op
  l_op
  l_op
  l_op
  l_op
  l_op
  l_op
  l_op
  l_c stepG_region_end
  l_cond false
  l_c stepG_skip
  l_c stepG_seq
  l_reg
  l_op
  l_c stepG_region_end
  l_c stepG_seq
  l_reg
  l_op
  l_op
  refine .inl ?_
  rintro w₂ ⟨d₂, rfl⟩
  exact ⟨_, _, _, _, _, _, _, _, _, _, _, _, _, _, rfl, _, rfl⟩

set_option maxRecDepth 100000 in
set_option maxHeartbeats 4000000 in
theorem rows_pre2 (u14 u15 u16 u17 u18 u19 u20 u21 u22 u23 u24 u25 u26 u27 : Value) (hA : ∀ a, A = some a → a.block < W.heap.size) (hB : ∀ a, B = some a → a.block < W.heap.size) (hT : Texts W A ps) (hU : Texts W B qs) (hA0 : A = none → ps.length = 0 ∧ ca = 0) (hB0 : B = none → qs.length = 0 ∧ cb = 0) (hl : ps.length + qs.length ≤ 60) (hx0 : 0 ≤ x) (hx1 : x < 256) :
    GW Try.prog (DGrow (fun _ => False)) (fun g w' => ∃ u3 u4 u5 u14 u15 u16 u17 u18 u19 u20 u21 u22 u23 u24 u25 u26 u27 u28 u29 u30 u31 u32 u33 u34 u35 u36 u37 u38 C cc, g = gSp A ca ps (kof x) [rwF1 u3 u4 u5 u14 u15 u16 u17 u18 u19 u20 u21 u22 u23 u24 u25 u26 u27 u28 u29 u30 u31 u32 u33 u34 u35 u36 u37 u38 A B C ps.length ca qs.length cb (ps.length + qs.length) cc x (kof x)] ∧ OnB (fun _ => False) W w' ∧ SRow w' W.heap.size (.slice C (ps.length + qs.length) cc) (ps ++ qs)) (rwA u14 u15 u16 u17 u18 u19 u20 u21 u22 u23 u24 u25 u26 u27 A B ca cb ps qs x) W := by
  have hk1 : IntKind.i64.wrap x = x := by rw [IntKind.wrap_i64]; omega
  have hk2 : IntKind.i64.wrap (1 + x % 64) = kof x := by rw [IntKind.wrap_i64]; unfold kof; omega
  have hk3 : x.tmod 64 = x % 64 := by rw [Int.tmod_eq_emod_of_nonneg hx0]
  unfold rwA
  simp only [rwP4, Try.f5, List.map_cons, List.map_nil]
  refine GW.append (base := W.heap.size) (v := .slice none 0 0) (l := []) rfl rfl (by decide) (by kernel_rfl) (.tmp 29) (.tmp 30) rfl rfl (SRow.nil _ _) rfl hT hA0 (by simp; omega) (Nat.le_refl _) (fun v1 w1 ho1 hg1 => ?_)
  rw [List.nil_append] at ho1
  have hU1 : Texts w1 B qs := fun i hi => by
    obtain ⟨a, e, hc⟩ := hU i hi
    refine ⟨a, e, ?_⟩
    rw [World.cell?_of_block (w := W) (hg1.block _ (World.block_lt_of_cell? W _ hc) (by simp [Value.ownBlock]))]
    exact hc
  have hold1 : ∀ k, k < W.heap.size → w1.heap[k]? = W.heap[k]? := fun k hk => hg1.block k hk (by simp [Value.ownBlock])
  refine GW.then (GW.quiet (n := 6) (Stop := fun g w' => g = rwB u14 u15 u16 u17 u18 u19 u20 u21 u22 u23 u24 u25 u26 u27 A B ca cb ps qs x v1 ∧ AtRel w1 w') ?_) ?_
  · walk_nrm
    l_op
    l_c stepG_region_end
    l_c stepG_seq
    l_reg
    l_op
    l_op
    rintro w₂ ⟨d₂, rfl⟩
    exact ⟨rfl, _, rfl⟩
  · rintro g w' ⟨rfl, d, rfl⟩
    unfold rwB
    simp only [rwP5, Try.f5, List.map_cons, List.map_nil]
    refine GW.append (w := w1.at d) (base := W.heap.size) (v := v1) (l := ps) rfl rfl (by decide) (by kernel_rfl) (.tmp 32) (.tmp 33) rfl rfl ho1 rfl hU1 hB0 (by omega) hg1.size (fun v2 w2 ho2 hg2 => ?_)
    obtain ⟨C, nc, cc, rfl, rfl⟩ := ho2.form
    have hon : OnB (fun _ => False) W w2 := ⟨hg2.os.trans hg1.os, hg2.output.trans hg1.output, Nat.le_trans hg1.size hg2.size, fun k hk _ => (hg2.block k (Nat.lt_of_lt_of_le hk hg1.size) (fun e => by
      have := (own_lt ho1 e.symm).2
      omega)).trans (hold1 k hk)⟩
    refine GW.mono (GW.quiet (Shun := fun _ => False) (n := 16) (Stop := fun g w' => (∃ u3 u4 u5 u14 u15 u16 u17 u18 u19 u20 u21 u22 u23 u24 u25 u26 u27 u28 u29 u30 u31 u32 u33 u34 u35 u36 u37 u38, g = gSp A ca ps (kof x) [rwF1 u3 u4 u5 u14 u15 u16 u17 u18 u19 u20 u21 u22 u23 u24 u25 u26 u27 u28 u29 u30 u31 u32 u33 u34 u35 u36 u37 u38 A B C ps.length ca qs.length cb (ps.length + qs.length) cc x (kof x)]) ∧ AtRel w2 w') ?_) (fun _ _ _ h => h) ?_
    · walk_nrm
      l_op
      l_c stepG_region_end
      l_c stepG_seq
      l_reg
      l_op
      l_op
      l_op
      l_op
      l_op
      l_c stepG_region_end
      l_c stepG_seq
      l_reg
      l_op
      l_op
      l_call Try.func9 (by rfl) Try.f9
      refine .inl ?_
      rintro w₂ ⟨d₂, rfl⟩
      exact ⟨⟨_, _, _, _, _, _, _, _, _, _, _, _, _, _, _, _, _, _, _, _, _, _, _, _, _, _, _, _, rfl⟩, _, rfl⟩
    · rintro g w' ⟨⟨u3, u4, u5, u14, u15, u16, u17, u18, u19, u20, u21, u22, u23, u24, u25, u26, u27, u28, u29, u30, u31, u32, u33, u34, u35, u36, u37, u38, rfl⟩, d', rfl⟩
      exact ⟨_, _, _, _, _, _, _, _, _, _, _, _, _, _, _, _, _, _, _, _, _, _, _, _, _, _, _, _, C, cc, rfl, hon, by rw [← List.length_append]; exact ho2⟩
end
end Go.Proofs.Ytjehmdhcccmihaa.Pool
/-
  The rest of the law HashRows, behind its three calls of Spread.
-/
namespace Go.Proofs.Ytjehmdhcccmihaa.Pool
open Go.RowKit Hs Lift
set_option maxHeartbeats 8000000 in
set_option maxRecDepth 100000 in
theorem rows_rest (u3 u4 u5 u14 u15 u16 u17 u18 u19 u20 u21 u22 u23 u24 u25 u26 u27 u28 u29 u30 u31 u32 u33 u34 u35 u36 u37 u38 : Value) (A B C : Option Addr) (na ca nb cb nc cc : Nat) (x : Int) (kk g1 g2 g3 : Nat) (P1 P2 : Nat → List ByteArray) (w : World) (hk1 : 1 ≤ kk) (hk : kk ≤ 64)
    (h1 : ∀ a, a < kk → ∃ B c, w.cell? ⟨g1, a, none⟩ = some (.slice B (P1 a).length c) ∧ Texts w B (P1 a) ∧ (B = none → (P1 a).length = 0 ∧ c = 0))
    (h2 : ∀ a, a < kk → ∃ B c, w.cell? ⟨g2, a, none⟩ = some (.slice B (P2 a).length c) ∧ Texts w B (P2 a) ∧ (B = none → (P2 a).length = 0 ∧ c = 0))
    (h3 : ∀ a, a < kk → ∃ B c, w.cell? ⟨g3, a, none⟩ = some (.slice B (P1 a ++ P2 a).length c) ∧ Texts w B (P1 a ++ P2 a)) (hl : ∀ a, (P1 a).length + (P2 a).length ≤ 200) :
    wpList Try.prog rwP3.1 (restPost Try.prog Try.f5 (fun e w' => e = .returned (.bool true) ∧ Below w.heap.size w w') rwP3.2) (rwP3.1.toList.drop 3)
      { tmps := #[.slice A na ca, .slice B nb cb, .int .u8 x, u3, u4, u5, .bool false, .slice C nc cc, .int .i64 kk, .slice (some ⟨g1, 0, none⟩) kk kk, .slice (some ⟨g2, 0, none⟩) kk kk, undef, undef, undef, u14, u15, u16, u17, u18, u19, u20, u21, u22, u23, u24, u25, u26, u27, u28, u29, u30, u31, u32, u33, u34, u35, u36, u37, u38, .slice A na ca, .int .i64 kk, .slice (some ⟨g1, 0, none⟩) kk kk, .slice B nb cb, .int .i64 kk, .slice (some ⟨g2, 0, none⟩) kk kk, .slice C nc cc, .int .i64 kk, .slice (some ⟨g3, 0, none⟩) kk kk, undef, undef, undef, undef, undef, undef, undef, undef, undef, undef, undef, undef, undef, undef, undef, undef, undef, undef, undef, undef, undef, undef, undef, undef, undef, undef, undef, undef, undef, undef, undef, undef, undef, undef, undef, undef, undef, undef, undef, undef, undef], defers := [] } w := by
  have H1 := Lib.hid h1
  have H2 := Lib.hid h2
  have H3 := Lib.hid h3
  have HL := Lib.hid hl
  clear h1 h2 h3 hl
  obtain ⟨F, hF⟩ : ∃ F, F = Try.f5 := ⟨_, rfl⟩
  rw [← hF]
  have HF := Lib.hid hF
  clear hF
  simp only [rwP3, Try.f5]
  simp only [List.drop, List.drop_succ_cons, List.drop_zero]
  go_wp2_with fail
  show Code.wp Try.prog _ (restPost Try.prog F _ _) _ _
  rw [HF.out]
  go_wp2_with fail
  go_loopw [12] (fun i wr => ∃ a : Nat, a ≤ kk ∧ i = .int .i64 a ∧ Hid (Below w.heap.size w wr)) (fun i _ => kk - (intOf i).toNat)
  case atStart => exact ⟨0, Nat.zero_le _, rfl, Below.refl _ _⟩
  case round =>
    obtain ⟨a, ha, rfl, HB⟩ := hrel
    by_cases hlt : a < kk
    · obtain ⟨B1, c1, e1, t1, n1⟩ := H1.out a hlt
      obtain ⟨B2, c2, e2, t2, n2⟩ := H2.out a hlt
      obtain ⟨B3, c3, e3, t3⟩ := H3.out a hlt
      have hl := HL.out a
      generalize P1 a = r1 at e1 t1 n1 e3 t3 hl
      generalize P2 a = r2 at e2 t2 n2 e3 t3 hl
      obtain ⟨z1, hz1⟩ : ∃ z, z = r1.length := ⟨_, rfl⟩
      obtain ⟨z2, hz2⟩ : ∃ z, z = r2.length := ⟨_, rfl⟩
      obtain ⟨z3, hz3⟩ : ∃ z, z = (r1 ++ r2).length := ⟨_, rfl⟩
      rw [← hz1] at e1
      rw [← hz2] at e2
      rw [← hz3] at e3
      have T1 := Lib.hid (t1.keep HB.out)
      have T2 := Lib.hid t2
      have T3 := Lib.hid t3
      have N1 := Lib.hid n1
      have N2 := Lib.hid n2
      have Z1 := Lib.hid hz1
      have Z2 := Lib.hid hz2
      have Z3 := Lib.hid hz3
      have HLN := Lib.hid hl
      have E2 := Lib.hid e2
      have E3 := Lib.hid e3
      have e1 := keep2 HB.out e1
      have i1 : (a : Int) < (kk : Int) := by omega
      clear t1 t2 t3 n1 n2 hz1 hz2 hz3 hl e2 e3 hlt
      go_wp2_with (at_builtin; refine wpList_append_strs rfl _ _ rfl w.heap.size (.slice none 0 0) [] rfl (SRow.nil _ _) B1 c1 z1 r1 rfl Z1.out T1.out N1.out (by have := HLN.out; simp; omega) HB.out.size ?_)
      intro v4 w4 ho4 hg4
      try rw [List.nil_append] at ho4
      have hb4 : Below w.heap.size w w4 := HB.out.trans (((Below.refl _ _).grown hg4 (Nat.le_refl _) (by simp [Value.ownBlock])).mono HB.out.size)
      have e2 := keep2 hb4 E2.out
      have HB4 := Lib.hid hb4
      have HO4 := Lib.hid ho4
      clear hg4 hb4 ho4 e1
      go_wp2_with (at_builtin; refine wpList_append_strs rfl _ _ rfl w.heap.size v4 r1 rfl HO4.out B2 c2 z2 r2 rfl Z2.out (T2.out.keep HB4.out) N2.out (by have := HLN.out; omega) HB4.out.size ?_)
      intro v5 w5 ho5 hg5
      have hb5 : Below w.heap.size w w5 := SRow.grown HO4.out hg5 HB4.out HB4.out.size
      obtain ⟨C2, cc2, rfl, t5⟩ := ho5.view
      rw [← Z3.out]
      have e3 := keep2 hb5 E3.out
      have HB5 := Lib.hid hb5
      have HS : ∀ w', Hid (Below w5.heap.size w5 w' → Calls Try.prog 12 #[.slice C2 z3 cc2, .slice B3 z3 c3] w' fun e w'' => e = .returned (.bool true) ∧ Below w'.heap.size w' w'') := fun w' => Lib.hid (fun hb => by
        have := same_true C2 B3 cc2 c3 (r1 ++ r2) w' (t5.keep hb) (T3.out.keep (HB5.out.trans (hb.mono HB5.out.size))) (by have := HLN.out; rw [List.length_append]; omega)
        rw [← Z3.out] at this
        exact this)
      clear hg5 ho5 hb5 t5 e2
      go_wp2_with fail
      refine ((HS _).out (Below.refl _ _)).mono ?_
      rintro e w6 ⟨rfl, hb6⟩
      have HB6 : Hid (Below w.heap.size w w6) := Lib.hid (HB5.out.trans (hb6.mono HB5.out.size))
      clear hb6
      go_wp2_with fail
      go_roundw
      case rel => exact ⟨a + 1, by omega, by go_num, HB6.out⟩
      case measure => simp [intOf]; omega
    · have i1 : ¬ (a : Int) < (kk : Int) := by omega
      go_wp2_with fail
      refine (known_calls _).mono ?_
      rintro e w3 ⟨rfl, hb3⟩
      have HB3 : Hid (Below w.heap.size w w3) := Lib.hid (HB.out.trans (hb3.mono HB.out.size))
      clear hb3
      go_wp2_with fail
      go_ret
      exact ⟨rfl, HB3.out⟩
end Go.Proofs.Ytjehmdhcccmihaa.Pool
/-
  HashRows behind its three pools: alone, on to its last frame, which returns true; and beside leavers.
-/
namespace Go.Proofs.Ytjehmdhcccmihaa.Pool
open Go.RowKit Go.Conc Hs Lift
/-- row a of the document's -/
def rowOf (kk : Nat) (x : Int) (ps : List ByteArray) (a : Nat) : List ByteArray := ps.filter fun p => toShard (kof x) p = a
theorem rows_get {w : World} {kk g : Nat} {x : Int} {ps : List ByteArray} (hR : Pool.Rows w (some ⟨g, 0, none⟩) (spreadR kk (toShard (kof x)) ps)) (a : Nat) (ha : a < kk) :
    ∃ B c, w.cell? ⟨g, a, none⟩ = some (.slice B (rowOf kk x ps a).length c) ∧ Texts w B (rowOf kk x ps a) ∧ (B = none → (rowOf kk x ps a).length = 0 ∧ c = 0) := by
  obtain ⟨ad, e, B, c, h1, h2, h3, h4⟩ := hR.at_ (i := a) (by rw [spreadR_length]; exact ha)
  cases e
  have e2 := spreadR_get (n := kk) (f := toShard (kof x)) (ps := ps) ha
  have e3 : (spreadR kk (toShard (kof x)) ps)[a]'(by rw [spreadR_length]; exact ha) = ps.filter fun p => toShard (kof x) p = a := by
    rw [List.getElem?_eq_getElem (by rw [spreadR_length]; exact ha)] at e2
    exact Option.some.inj e2
  rw [e3] at h1 h2 h3
  rw [add_zero_blk] at h1
  exact ⟨B, c, h1, h2, fun e => ⟨Nat.le_zero.1 (by have h5 : (rowOf kk x ps a).length ≤ c := h3; have := h4 e; omega), h4 e⟩⟩
set_option maxHeartbeats 1000000 in
theorem rows_out (u3 u4 u5 u14 u15 u16 u17 u18 u19 u20 u21 u22 u23 u24 u25 u26 u27 u28 u29 u30 u31 u32 u33 u34 u35 u36 u37 u38 : Value) (A B C : Option Addr) (na ca nb cb nc cc : Nat) (x : Int) (kk g1 g2 g3 : Nat) (ps qs : List ByteArray) (w : World) (Z : List Frame) (hk1 : 1 ≤ kk) (hk : kk ≤ 64) (hl : ps.length + qs.length ≤ 60)
    (h1 : Pool.Rows w (some ⟨g1, 0, none⟩) (spreadR kk (toShard (kof x)) ps)) (h2 : Pool.Rows w (some ⟨g2, 0, none⟩) (spreadR kk (toShard (kof x)) qs)) (h3 : Pool.Rows w (some ⟨g3, 0, none⟩) (spreadR kk (toShard (kof x)) (ps ++ qs))) :
    ∃ fr w', Steps Try.prog (lone ((rwF3 u3 u4 u5 u14 u15 u16 u17 u18 u19 u20 u21 u22 u23 u24 u25 u26 u27 u28 u29 u30 u31 u32 u33 u34 u35 u36 u37 u38 A B C na ca nb cb nc cc x (kk : Nat) (.slice (some ⟨g1, 0, none⟩) kk kk) (.slice (some ⟨g2, 0, none⟩) kk kk)).finish (.slice (some ⟨g3, 0, none⟩) kk kk)) Z w) (lone fr Z w') ∧ fr.mode = .returning ∧ fr.fn = 5 ∧ fr.tmps.getD 6 undef = .bool true ∧ Below w.heap.size w w' := by
  rw [rwF3_finish]
  have h := rows_rest u3 u4 u5 u14 u15 u16 u17 u18 u19 u20 u21 u22 u23 u24 u25 u26 u27 u28 u29 u30 u31 u32 u33 u34 u35 u36 u37 u38 A B C na ca nb cb nc cc x kk g1 g2 g3 (rowOf kk x ps) (rowOf kk x qs) w hk1 hk (rows_get h1) (rows_get h2) (fun a ha => by
    obtain ⟨D, c, e1, e2, _⟩ := rows_get h3 a ha
    have e : rowOf kk x (ps ++ qs) a = rowOf kk x ps a ++ rowOf kk x qs a := List.filter_append ..
    rw [e] at e1 e2
    exact ⟨D, c, e1, e2⟩) (fun a => by
    have e1 : (rowOf kk x ps a).length ≤ ps.length := List.length_filter_le _ _
    have e2 : (rowOf kk x qs a).length ≤ qs.length := List.length_filter_le _ _
    omega)
  rw [post_eq] at h
  obtain ⟨v, w3, fr, ⟨rfl, hb3⟩, s3, hfn, hlv⟩ := rest_last (b := blank 5) Try.func5 rfl (wpOps_drop h) Z
  refine ⟨fr, w3, s3, hlv.1, hfn, ?_, hb3⟩
  obtain ⟨_, _, _, fn, hf, hr⟩ := hlv
  rw [hfn] at hf
  obtain rfl : Try.f5 = fn := Option.some.inj (Try.func5.symm.trans hf)
  simp [results, Try.results5] at hr
  rw [Array.getD_eq_getD_getElem?]
  exact hr
theorem rw_ok : (Item.inRegion rwP3.1 (List.range' 3 (rwP3.1.toList.drop 3).length) :: rwP3.2.map .code).all (okItem Try.prog plainFns sameFns) = true := by kernel_rfl
set_option maxHeartbeats 1000000 in
theorem rows_gw (u3 u4 u5 u14 u15 u16 u17 u18 u19 u20 u21 u22 u23 u24 u25 u26 u27 u28 u29 u30 u31 u32 u33 u34 u35 u36 u37 u38 : Value) (A B C : Option Addr) (na ca nb cb nc cc : Nat) (x : Int) (kk g1 g2 g3 : Nat) (ps qs : List ByteArray) (Bs : Nat → Prop) (w0 : World) (hk1 : 1 ≤ kk) (hk : kk ≤ 64) (hl : ps.length + qs.length ≤ 60) (hS : Lift.Stand Bs w0)
    (h1 : Pool.Rows (shut Bs w0) (some ⟨g1, 0, none⟩) (spreadR kk (toShard (kof x)) ps)) (h2 : Pool.Rows (shut Bs w0) (some ⟨g2, 0, none⟩) (spreadR kk (toShard (kof x)) qs)) (h3 : Pool.Rows (shut Bs w0) (some ⟨g3, 0, none⟩) (spreadR kk (toShard (kof x)) (ps ++ qs))) :
    GW Try.prog (DGrow (InB Bs)) (fun a w => ∃ fr Y wl, a = G fr (Y ++ []) ∧ (AtOut Try.prog plainFns sameFns (· = .bool true) fr Y wl ∧ OnB Bs w0 wl) ∧ RelH Bs wl w) (G ((rwF3 u3 u4 u5 u14 u15 u16 u17 u18 u19 u20 u21 u22 u23 u24 u25 u26 u27 u28 u29 u30 u31 u32 u33 u34 u35 u36 u37 u38 A B C na ca nb cb nc cc x (kk : Nat) (.slice (some ⟨g1, 0, none⟩) kk kk) (.slice (some ⟨g2, 0, none⟩) kk kk)).finish (.slice (some ⟨g3, 0, none⟩) kk kk)) []) w0 := by
  have hF : FitF Try.prog plainFns sameFns ((rwF3 u3 u4 u5 u14 u15 u16 u17 u18 u19 u20 u21 u22 u23 u24 u25 u26 u27 u28 u29 u30 u31 u32 u33 u34 u35 u36 u37 u38 A B C na ca nb cb nc cc x (kk : Nat) (.slice (some ⟨g1, 0, none⟩) kk kk) (.slice (some ⟨g2, 0, none⟩) kk kk)).finish (.slice (some ⟨g3, 0, none⟩) kk kk)) := by
    rw [rwF3_finish]
    exact fit_blank rw_ok rfl ⟨_, Try.func5⟩
  have hY : FitX Try.prog plainFns sameFns [] := fun x hx => by cases hx
  refine lift_walk (Z := []) closed (ends_on (· = .bool true) (OnB Bs w0) (fun _ _ h => h)) hF hY hS fun T => ?_
  obtain ⟨fr, w', hs, hmd, hfn, hv, hb⟩ := rows_out u3 u4 u5 u14 u15 u16 u17 u18 u19 u20 u21 u22 u23 u24 u25 u26 u27 u28 u29 u30 u31 u32 u33 u34 u35 u36 u37 u38 A B C na ca nb cb nc cc x kk g1 g2 g3 ps qs (Lift.as (shut Bs w0) T) [door Try.prog] hk1 hk hl h1 h2 h3
  have hP : Pend Bs (Lift.as (shut Bs w0) T) := shut_pend hS
  have hfit := (steps_fit closed (Y := []) (Y' := []) hF hY hP (.inr hmd) ⟨_, by rw [hfn]; exact Try.func5⟩ hs).1
  have hsz0 : (Lift.as (shut Bs w0) T).heap.size = w0.heap.size := shut_size
  exact ⟨fr, [], w', hs, ⟨hfit, rfl, hmd, by rw [hfn]; kernel_rfl, _, 6, by rw [hfn]; exact Try.func5, rfl, hv⟩, ⟨hb.os, hb.output, by have := hb.size; rw [hsz0] at this; exact this, fun k hk hn => (hb.block k (by rw [hsz0]; exact hk)).trans (shut_heap hn)⟩⟩
end Go.Proofs.Ytjehmdhcccmihaa.Pool
/-
  HASHROWS' RUN, on whatever tape: three pools, one behind the other, each beside those of the ones ahead that are still leaving; it ends, races nowhere, hands all over, and answers true.
-/
namespace Go.Proofs.Ytjehmdhcccmihaa.Pool
open Go.Conc Go.ConcN Go.RowKit Go.Conc.Lib Hs
open Go.ConcR (KK wgBlock WgAt stA smA rd wr mk Payload Aside2 DC0)
section
variable {A B : Option Addr} {ca cb : Nat} {ps qs : List ByteArray} {W w : World} {x : Int}
theorem enter_eqR (A B : Option Addr) (na ca nb cb : Nat) (x : Int) : Frame.enter Try.prog 5 #[.slice A na ca, .slice B nb cb, .int .u8 x] .normal = (Conc.base 5).at ⟨#[.slice A na ca, .slice B nb cb, .int .u8 x, undef, undef, undef, undef, undef, undef, undef, undef, undef, undef, undef, undef, undef, undef, undef, undef, undef, undef, undef, undef, undef, undef, undef, undef, undef, undef, undef, undef, undef, undef, undef, undef, undef, undef, undef, undef, undef, undef, undef, undef, undef, undef, undef, undef, undef, undef, undef, undef, undef, undef, undef, undef, undef, undef, undef, undef, undef, undef, undef, undef, undef, undef, undef, undef, undef, undef, undef, undef, undef, undef, undef, undef, undef, undef, undef, undef, undef, undef, undef, undef, undef, undef, undef, undef, undef, undef], []⟩ [.code bodyRw] := by
  simp [Frame.enter, Frame.at, Try.func5, Conc.base, bodyRw, Try.f5]
theorem inB_none : Lift.InB (fun _ => False) = fun _ => False := by
  funext l
  simp [Lift.InB]
theorem OnB.at {B : Nat → Prop} {w w' : World} {d : Nat} (h : OnB B w w') : OnB B w (w'.at d) := h
set_option maxHeartbeats 4000000 in
/-- ████ THE RUN. ████ -/
theorem rows_run (hA : ∀ a, A = some a → a.block < W.heap.size) (hB : ∀ a, B = some a → a.block < W.heap.size) (hT : Texts W A ps) (hU : Texts W B qs) (hA0 : A = none → ps.length = 0 ∧ ca = 0) (hB0 : B = none → qs.length = 0 ∧ cb = 0)
    (hx0 : 0 ≤ x) (hx1 : x < 256) (hl : ps.length + qs.length ≤ 60) (hlo : long (bys ps) + long (bys qs) ≤ 600) :
    ∃ K last o w' t', runNT Try.prog (K + 1) (solo (G (Frame.enter Try.prog 5 #[.slice A ps.length ca, .slice B qs.length cb, .int .u8 x] .normal) []) W) #[] = (.ended o w', t') ∧
      runN Try.prog K (solo (G (Frame.enter Try.prog 5 #[.slice A ps.length ca, .slice B qs.length cb, .int .u8 x] .normal) []) W) = .next last ∧ step Try.prog last = .ended o w' ∧ Conc.Good Try.prog (fun v w' => v = .bool true ∧ Like W w') last o w' t' := by
  rw [enter_eqR, solo_eq_crowd]
  obtain ⟨kk, hkk, hk1, hk64⟩ := kof_nat x
  have hck := clip_of hk1 hk64
  have hzp : ∀ p ∈ ps, p.size ≤ maxLen := fun p hp => by have := size_le_long hp; unfold maxLen; omega
  have hzq : ∀ p ∈ qs, p.size ≤ maxLen := fun p hp => by have := size_le_long hp; unfold maxLen; omega
  have hz : ∀ p ∈ ps ++ qs, p.size ≤ maxLen := fun p hp => (List.mem_append.1 hp).elim (hzp p) (hzq p)
  obtain ⟨N, hpre⟩ := rows_pre1 (W := W) (ca := ca) (cb := cb) (x := x) hA hB hT hU hl hlo
  generalize G ((Conc.base 5).at ⟨#[.slice A ps.length ca, .slice B qs.length cb, .int .u8 x, undef, undef, undef, undef, undef, undef, undef, undef, undef, undef, undef, undef, undef, undef, undef, undef, undef, undef, undef, undef, undef, undef, undef, undef, undef, undef, undef, undef, undef, undef, undef, undef, undef, undef, undef, undef, undef, undef, undef, undef, undef, undef, undef, undef, undef, undef, undef, undef, undef, undef, undef, undef, undef, undef, undef, undef, undef, undef, undef, undef, undef, undef, undef, undef, undef, undef, undef, undef, undef, undef, undef, undef, undef, undef, undef, undef, undef, undef, undef, undef, undef, undef, undef, undef, undef, undef], []⟩ [.code bodyRw]) [] = g00 at hpre ⊢
  obtain ⟨K0, gs0, g0, w0, sl0, T0, q0, r0, z0, h00, ⟨u14, u15, u16, u17, u18, u19, u20, u21, u22, u23, u24, u25, u26, u27, rfl, d0, rfl⟩, L0, P0, N0⟩ :=
    gx_beside (P := Try.prog) (Q := fun e => NtA W.heap.size W.heap.size (.ofEvent e)) (Nt := fun op => NtA W.heap.size W.heap.size op.act) (fun g fn pos e h => nt_of _ _ g fn pos e h) (B := W.heap.size) (GW.of_goes hpre)
      #[g00] none #[] (fun _ => 0) rfl (leavers_one _ _) (past_nil.mono (Nat.zero_le _)) (fun op hop => by simp at hop)
  have hpre2 := (rows_pre2 u14 u15 u16 u17 u18 u19 u20 u21 u22 u23 u24 u25 u26 u27 hA hB hT hU hA0 hB0 hl hx0 hx1).rely (w₁ := W.at d0) ⟨d0, rfl⟩
  obtain ⟨K1, gs1, a1, w1, sl1, T1, q1, r1, z1, h01, ⟨u3, u4, u5, u14, u15, u16, u17, u18, u19, u20, u21, u22, u23, u24, u25, u26, u27, u28, u29, u30, u31, u32, u33, u34, u35, u36, u37, u38, C, cc, rfl, on1, hsr⟩, L1, P1⟩ := gw_beside hpre2 gs0 sl0 T0 q0 h00 L0 P0
  have hs1 : W.heap.size ≤ w1.heap.size := on1.2.2.1
  have hTC1 : Texts w1 C (ps ++ qs) := hsr.texts.2
  have hC1 : ∀ a, C = some a → W.heap.size ≤ a.block ∧ a.block < w1.heap.size := fun a e => by
    subst e
    exact (own_lt hsr rfl).symm
  have hTA1 : Texts w1 A ps := texts_on on1 (fun _ _ h => h) hT
  have hTB1 : Texts w1 B qs := texts_on on1 (fun _ _ h => h) hU
  clear hsr
  rw [← inB_none] at P1
  have hck' : clip (kof x) = kk := by rw [hkk]; exact hck
  -- the first call
  obtain ⟨K2, gs2, w2, sl2, T2, q2, fr2, r2, z2, h02, bk2, L2, P2, hs2, on2, R1, S2⟩ := spread_phase (Bs := fun _ => False) (W := w1) (fun _ h => h.elim) (fun _ h => h.elim) (fun a e => by have := hA a e; omega) (fun _ _ h => h) hTA1 (by omega) hzp (by rw [z1, z0]; simp) h01 L1 P1
  obtain ⟨N3, hm3⟩ := rw_mid1 u3 u4 u5 u14 u15 u16 u17 u18 u19 u20 u21 u22 u23 u24 u25 u26 u27 u28 u29 u30 u31 u32 u33 u34 u35 u36 u37 u38 A B C ps.length ca qs.length cb (ps.length + qs.length) cc x (kof x) _ qs rfl bk2 w2
  obtain ⟨K3, gs3, a3, w3, sl3, T3, q3, r3, z3, h03, ⟨rfl, d3, rfl⟩, L3, P3⟩ := gw_beside (GW.quiet (Shun := Lift.InB _) hm3) gs2 sl2 T2 q2 h02 L2 P2
  have e2 : (w2.at d3).heap.size = w2.heap.size := rfl
  have hTB2 : Texts w2 B qs := texts_on on2 (fun _ _ h => h) hTB1
  have hTC2 : Texts w2 C (ps ++ qs) := texts_on on2 (fun _ _ h => h) hTC1
  -- the second call
  obtain ⟨K4, gs4, w4, sl4, T4, q4, fr4, r4, z4, h04, bk4, L4, P4, hs4, on4, R2, S4⟩ := spread_phase (Bs := fun b => b = w1.heap.size + 8 ∨ False) (W := w2.at d3) (fun b h => h.elim (fun h => by omega) (·.elim)) S2
    (fun a e => by have := hB a e; omega) (fun a e h => h.elim (fun h => by have := hB a e; omega) id) hTB2 (by omega) hzq (by rw [z3, z2, z1, z0]; simp; omega) h03 L3 P3
  obtain ⟨N5, hm5⟩ := rw_mid2 u3 u4 u5 u14 u15 u16 u17 u18 u19 u20 u21 u22 u23 u24 u25 u26 u27 u28 u29 u30 u31 u32 u33 u34 u35 u36 u37 u38 A B C ps.length ca qs.length cb (ps.length + qs.length) cc x (kof x) _ _ (ps ++ qs) List.length_append.symm bk4 w4
  obtain ⟨K5, gs5, a5, w5, sl5, T5, q5, r5, z5, h05, ⟨rfl, d5, rfl⟩, L5, P5⟩ := gw_beside (GW.quiet (Shun := Lift.InB _) hm5) gs4 sl4 T4 q4 h04 L4 P4
  have e4 : (w4.at d5).heap.size = w4.heap.size := rfl
  have hTC4 : Texts w4 C (ps ++ qs) := texts_on on4 (fun a e h => h.elim (fun h => by have := (hC1 a e).2; omega) id) hTC2
  -- the third call
  obtain ⟨K6, gs6, w6, sl6, T6, q6, fr6, r6, z6, h06, bk6, L6, P6, hs6, on6, R3, S6⟩ := spread_phase (Bs := fun b => b = (w2.at d3).heap.size + 8 ∨ b = w1.heap.size + 8 ∨ False) (W := w4.at d5) (fun b h => h.elim (fun h => by omega) (fun h => h.elim (fun h => by omega) (·.elim))) S4
    (fun a e => by have := (hC1 a e).2; omega) (fun a e h => h.elim (fun h => by have := (hC1 a e).2; omega) (fun h => h.elim (fun h => by have := (hC1 a e).2; omega) id)) hTC4 (by rw [List.length_append]; omega) hz (by rw [z5, z4, z3, z2, z1, z0]; simp; omega) h05 L5 P5
  have R1a := rows_on (w := w2.at d3) (C := fun b => b = (w2.at d3).heap.size + 8 ∨ b = w1.heap.size + 8 ∨ False) S2 on4 (fun b h => h.elim (fun h => .inr (by omega)) .inl) R1
  have R1b := rows_on (w := w4.at d5) (C := fun b => b = (w4.at d5).heap.size + 8 ∨ b = (w2.at d3).heap.size + 8 ∨ b = w1.heap.size + 8 ∨ False) S4 on6 (fun b h => h.elim (fun h => .inr (by omega)) .inl) R1a
  have R2b := rows_on (w := w4.at d5) (C := fun b => b = (w4.at d5).heap.size + 8 ∨ b = (w2.at d3).heap.size + 8 ∨ b = w1.heap.size + 8 ∨ False) S4 on6 (fun b h => h.elim (fun h => .inr (by omega)) .inl) R2
  rw [hck'] at R1b R2b R3 bk6 h06
  rw [hkk] at h06
  have hb4 : ∀ b, (b = (w4.at d5).heap.size + 8 ∨ b = (w2.at d3).heap.size + 8 ∨ b = w1.heap.size + 8 ∨ False) → W.heap.size ≤ b := fun b h => by
    have h2 := on2.2.2.1
    rcases h with h | h | h | h
    · omega
    · omega
    · omega
    · exact h.elim
  have hfin : GW Try.prog (DGrow (Lift.InB (fun b => b = (w4.at d5).heap.size + 8 ∨ b = (w2.at d3).heap.size + 8 ∨ b = w1.heap.size + 8 ∨ False))) (fun a w => ∃ fr Y wl, a = G fr (Y ++ []) ∧ (Lift.AtOut Try.prog Lift.plainFns Lift.sameFns (· = .bool true) fr Y wl ∧ OnB (fun b => b = (w4.at d5).heap.size + 8 ∨ b = (w2.at d3).heap.size + 8 ∨ b = w1.heap.size + 8 ∨ False) w6 wl) ∧ Lift.RelH (fun b => b = (w4.at d5).heap.size + 8 ∨ b = (w2.at d3).heap.size + 8 ∨ b = w1.heap.size + 8 ∨ False) wl w)
      (G fr6 [rwF3 u3 u4 u5 u14 u15 u16 u17 u18 u19 u20 u21 u22 u23 u24 u25 u26 u27 u28 u29 u30 u31 u32 u33 u34 u35 u36 u37 u38 A B C ps.length ca qs.length cb (ps.length + qs.length) cc x (kk : Nat) (.slice (some ⟨w1.heap.size, 0, none⟩) kk kk) (.slice (some ⟨(w2.at d3).heap.size, 0, none⟩) kk kk)]) w6 := GW.one rfl (fun w₁ h₁ => by
    obtain ⟨d, rfl⟩ := h₁
    exact ⟨_, _, _, back_step bk6 Try.func9 Try.results9 _ _ (w6.at d), ⟨Nat.le_refl _, fun e he => by simp at he⟩,
      rows_gw u3 u4 u5 u14 u15 u16 u17 u18 u19 u20 u21 u22 u23 u24 u25 u26 u27 u28 u29 u30 u31 u32 u33 u34 u35 u36 u37 u38 A B C ps.length ca qs.length cb (ps.length + qs.length) cc x kk w1.heap.size (w2.at d3).heap.size (w4.at d5).heap.size ps qs _ (w6.at d) hk1 hk64 hl S6 R1b R2b R3⟩)
  obtain ⟨K7, gs7, a7, w7, sl7, T7, q7, r7, z7, h07, ⟨fr, Y, wl, rfl, ⟨hat, hon⟩, hrel⟩, L7, P7⟩ := gw_beside hfin gs6 sl6 T6 q6 h06 L6 P6
  have hlike : ∀ d, Like W (w7.at d) := fun d => by
    have oA : OnB (fun _ => False) W (w2.at d3) := on1.trans on2 (fun b h _ => h)
    have oB : OnB (fun _ => False) W (w4.at d5) := oA.trans on4 (fun b h hlt => h.elim (fun h => by omega) id)
    have oC : OnB (fun _ => False) W w6 := oB.trans on6 (fun b h hlt => by have h2 := on2.2.2.1; rcases h with h | h | h; omega; omega; exact h)
    have oD : OnB (fun _ => False) W wl := oC.trans hon (fun b h hlt => by have := hb4 b h; omega)
    have oE := oD.up hrel
    exact ⟨oE.1, oE.2.1, oE.2.2.1, fun k hk => oE.2.2.2 k hk (fun h => h.elim id fun h => by have := hb4 k h; omega)⟩
  obtain ⟨N8, last, o, w', t', f1, f2, f3, f4⟩ := beside_ends (Post := fun v w' => v = .bool true ∧ Like W w') (D := DE (EvL (Lift.InB (fun b => b = (w4.at d5).heap.size + 8 ∨ b = (w2.at d3).heap.size + 8 ∨ b = w1.heap.size + 8 ∨ False)) w7.heap.size)) (sl := sl7) (n := 0) (fun _ _ _ h => h) h07 L7 P7 (fun w₁ h₁ => by
    obtain ⟨d, rfl⟩ := h₁
    obtain ⟨hr, v, es, hst, hes, hv⟩ := Lift.out_end hat w7.heap.size (Lift.InB (fun b => b = (w4.at d5).heap.size + 8 ∨ b = (w2.at d3).heap.size + 8 ∨ b = w1.heap.size + 8 ∨ False)) (w7.at d)
    exact ⟨hr, v, es, hst, hes, hv, hlike d⟩)
  refine ⟨K0 + (K1 + (K2 + (K3 + (K4 + (K5 + (K6 + (K7 + N8))))))), last, o, w', t', ?_, ?_, f3, f4⟩
  · rw [Nat.add_assoc, runNT_add, r0]
    show runNT Try.prog (K1 + (K2 + (K3 + (K4 + (K5 + (K6 + (K7 + N8)))))) + 1) _ _ = _
    rw [Nat.add_assoc, runNT_add, r1]
    show runNT Try.prog (K2 + (K3 + (K4 + (K5 + (K6 + (K7 + N8))))) + 1) _ _ = _
    rw [Nat.add_assoc, runNT_add, r2]
    show runNT Try.prog (K3 + (K4 + (K5 + (K6 + (K7 + N8)))) + 1) _ _ = _
    rw [Nat.add_assoc, runNT_add, r3]
    show runNT Try.prog (K4 + (K5 + (K6 + (K7 + N8))) + 1) _ _ = _
    rw [Nat.add_assoc, runNT_add, r4]
    show runNT Try.prog (K5 + (K6 + (K7 + N8)) + 1) _ _ = _
    rw [Nat.add_assoc, runNT_add, r5]
    show runNT Try.prog (K6 + (K7 + N8) + 1) _ _ = _
    rw [Nat.add_assoc, runNT_add, r6]
    show runNT Try.prog (K7 + N8 + 1) _ _ = _
    rw [Nat.add_assoc, runNT_add, r7]
    exact f1
  · rw [runN_add, ← runNT_fst Try.prog _ _ #[], r0]
    show runN Try.prog (K1 + (K2 + (K3 + (K4 + (K5 + (K6 + (K7 + N8))))))) _ = _
    rw [runN_add, ← runNT_fst Try.prog _ _ T0, r1]
    show runN Try.prog (K2 + (K3 + (K4 + (K5 + (K6 + (K7 + N8)))))) _ = _
    rw [runN_add, ← runNT_fst Try.prog _ _ T1, r2]
    show runN Try.prog (K3 + (K4 + (K5 + (K6 + (K7 + N8))))) _ = _
    rw [runN_add, ← runNT_fst Try.prog _ _ T2, r3]
    show runN Try.prog (K4 + (K5 + (K6 + (K7 + N8)))) _ = _
    rw [runN_add, ← runNT_fst Try.prog _ _ T3, r4]
    show runN Try.prog (K5 + (K6 + (K7 + N8))) _ = _
    rw [runN_add, ← runNT_fst Try.prog _ _ T4, r5]
    show runN Try.prog (K6 + (K7 + N8)) _ = _
    rw [runN_add, ← runNT_fst Try.prog _ _ T5, r6]
    show runN Try.prog (K7 + N8) _ = _
    rw [runN_add, ← runNT_fst Try.prog _ _ T6, r7]
    exact f2
end
end Go.Proofs.Ytjehmdhcccmihaa.Pool
/-
  HashRows where it starts nobody; HashRows, whatever the keys.
-/
namespace Go.Proofs.Ytjehmdhcccmihaa.Pool
open Go.Conc Go.RowKit Hs
set_option maxHeartbeats 400000 in
theorem long_any (A : Option Addr) (cap : Nat) (ps : List ByteArray) (w : World) (hA : Texts w A ps) (hl : ps.length ≤ 140737488355328) :
    Calls Try.prog 6 #[.slice A ps.length cap] w fun e w' => ∃ z : Int, e = .returned (.int .i64 z) ∧ w = w' := by
  go_enter Try.func6, Try.ntmps6
  go_wp2
  go_loop [3, 4] (fun n i => ∃ (k : Nat) (m : Int), k ≤ ps.length ∧ i = .int .i64 k ∧ n = .int .i64 m) (fun _ i => ps.length - (intOf i).toNat)
  case atStart => exact ⟨0, 0, Nat.zero_le _, rfl, rfl⟩
  case round =>
    obtain ⟨k, m, hk, rfl, rfl⟩ := hrel
    by_cases hlt : k < ps.length
    · obtain ⟨a, rfl, hc⟩ := hA.at_ hlt
      clear hA
      go_wp2
      go_round
      case rel => exact ⟨k + 1, _, by omega, by go_num, rfl⟩
      case measure => simp [intOf]; omega
    · go_wp2
      go_ret
      exact ⟨⟨m, rfl⟩, rfl⟩
section
variable {A B : Option Addr} {ca cb : Nat} {ps qs : List ByteArray} {W : World} {x : Int}
set_option maxHeartbeats 2000000 in
theorem rows_early (hT : Texts W A ps) (hU : Texts W B qs) (hla : ps.length ≤ 140737488355328) (hlb : qs.length ≤ 140737488355328) (hlo : ps.length + qs.length ≤ 60 → long (bys ps) ≤ 2305843009213693952 ∧ long (bys qs) ≤ 2305843009213693952) (h : 60 < ps.length + qs.length ∨ 600 < long (bys ps) + long (bys qs)) :
    Calls Try.prog 5 #[.slice A ps.length ca, .slice B qs.length cb, .int .u8 x] W fun e w' => e = .returned (.bool true) ∧ Below W.heap.size W w' := by
  by_cases h1 : 60 < ps.length + qs.length
  · clear h hlo
    have HL1 := Lib.hid (long_any A ca ps W hT hla)
    have HL2 := Lib.hid (long_any B cb qs W hU hlb)
    have i1 : (60 : Int) < (ps.length : Int) + (qs.length : Int) := by omega
    have hw2 : IntKind.i64.wrap ((ps.length : Int) + (qs.length : Int)) = (ps.length : Int) + (qs.length : Int) := by rw [IntKind.wrap_i64]; omega
    clear hT hU
    go_enter Try.func5, Try.ntmps5
    go_wp2_with fail
    refine HL1.out.mono ?_
    rintro e w1 ⟨z1, rfl, rfl⟩
    go_wp2_with fail
    refine HL2.out.mono ?_
    rintro e w2 ⟨z2, rfl, rfl⟩
    generalize hz : IntKind.i64.wrap (z1 + z2) = z
    by_cases h6 : (600 : Int) < z
    all_goals
      go_wp2_with fail
      refine (known_calls _).mono ?_
      rintro e w1 ⟨rfl, hb1⟩
      go_wp2
      go_ret
      exact ⟨rfl, hb1⟩
  · obtain ⟨ha, hb⟩ := hlo (by omega)
    have HL1 := Lib.hid (long_calls A ca ps W hT (by omega))
    have HL2 := Lib.hid (long_calls B cb qs W hU (by omega))
    have i1 : (600 : Int) < ((long (bys ps) : Nat) : Int) + ((long (bys qs) : Nat) : Int) := by omega
    have hw1 : IntKind.i64.wrap (((long (bys ps) : Nat) : Int) + ((long (bys qs) : Nat) : Int)) = ((long (bys ps) : Nat) : Int) + ((long (bys qs) : Nat) : Int) := by rw [IntKind.wrap_i64]; omega
    clear hT hU hlo h
    go_enter Try.func5, Try.ntmps5
    go_wp2_with fail
    refine HL1.out.mono ?_
    rintro e w1 ⟨rfl, rfl⟩
    go_wp2_with fail
    refine HL2.out.mono ?_
    rintro e w2 ⟨rfl, rfl⟩
    go_wp2_with fail
    refine (known_calls _).mono ?_
    rintro e w1 ⟨rfl, hb1⟩
    go_wp2
    go_ret
    exact ⟨rfl, hb1⟩

/-- WHATEVER THE KEYS. -/
theorem rows_good (hx0 : 0 ≤ x) (hx1 : x < 256) (hA : ∀ a, A = some a → a.block < W.heap.size) (hB : ∀ a, B = some a → a.block < W.heap.size) (hT : Texts W A ps) (hU : Texts W B qs) (hA0 : A = none → ps.length = 0 ∧ ca = 0) (hB0 : B = none → qs.length = 0 ∧ cb = 0)
    (hla : ps.length ≤ 140737488355328) (hlb : qs.length ≤ 140737488355328) (hz : ∀ q ∈ ps, q.size ≤ 140737488355328) (hy : ∀ q ∈ qs, q.size ≤ 140737488355328) :
    ∃ K last o w' t', runNT Try.prog (K + 1) (solo (G (Frame.enter Try.prog 5 #[.slice A ps.length ca, .slice B qs.length cb, .int .u8 x] .normal) []) W) #[] = (.ended o w', t') ∧
      runN Try.prog K (solo (G (Frame.enter Try.prog 5 #[.slice A ps.length ca, .slice B qs.length cb, .int .u8 x] .normal) []) W) = .next last ∧ step Try.prog last = .ended o w' ∧ Conc.Good Try.prog (fun v w' => v = .bool true ∧ Like W w') last o w' t' := by
  by_cases h : ps.length + qs.length ≤ 60 ∧ long (bys ps) + long (bys qs) ≤ 600
  · exact rows_run hA hB hT hU hA0 hB0 hx0 hx1 h.1 h.2
  · have hlo : ps.length + qs.length ≤ 60 → long (bys ps) ≤ 2305843009213693952 ∧ long (bys qs) ≤ 2305843009213693952 := fun h1 => by
      have e1 := long_bound hz
      have e2 := long_bound hy
      have h2 : ps.length * (140737488355328 + 1) ≤ 60 * (140737488355328 + 1) := Nat.mul_le_mul_right _ (by omega)
      have h3 : qs.length * (140737488355328 + 1) ≤ 60 * (140737488355328 + 1) := Nat.mul_le_mul_right _ (by omega)
      omega
    have hc := rows_early (x := x) (ca := ca) (cb := cb) hT hU hla hlb hlo (by omega)
    refine good_of_calls (hc.mono ?_) (by kernel_rfl)
    rintro e w' ⟨rfl, hb⟩
    exact ⟨rfl, .of_below hb⟩
end
end Go.Proofs.Ytjehmdhcccmihaa.Pool
