/-
  The reader's parser is fed: what comes is gathered.
-/
import Derived.Test.YtgjedhdnnfdcgaaRspItr
namespace Go.Proofs.Ytgjedhdnnfdcgaa.Rp
open Go.RowKit Go.Shelf
attribute [local go_sem] Oper.semAt_some

abbrev cmdsv (n : Nat) : Value := .func (.func 43) #[] #[.pointer (some ⟨n + 1, 0, none⟩), .pointer (some ⟨n, 0, none⟩)]
abbrev ob0 (pb : Nat) : Obj := .cells #[.pointer (some ⟨pb, 0, none⟩)] 53
abbrev ob1 (A : Option Addr) (n cap : Nat) : Obj := .cells #[.slice A n cap] 23
theorem commands_calls (pb : Nat) (A : Option Addr) (n cap : Nat) (w : World) :
    Calls Try.prog 37 #[.pointer (some ⟨pb, 0, none⟩), .slice A n cap] w fun r w' => r = .returned (cmdsv w.heap.size) ∧ w' = (w.alloc (ob0 pb)).alloc (ob1 A n cap) := by
  go_enter Try.func37, Try.ntmps37
  go_wp2_with fail
  go_ret
  exact ⟨rfl, rfl⟩

/-- what the loop has gathered: the variables at bt and bl, the row of what came, each command in a block of its own -/
structure FI (w0 : World) (bt bl : Nat) (own : List Nat) (s : St) (ow : List Nat) (pre : List Yx) (W : World) (vv : Value) (last : Nat) : Prop where
  tb : Box W bt 27 #[vv]
  lb : Box W bl 3 #[.int .i64 (last : Nat)]
  row : W.ownsRow w0.heap.size 36 1 vv pre.length (pre.map fun x => Cm.v x.2)
  rd : ∀ x ∈ pre, ∃ g, x.2.2.1 = some ⟨g, 0, none⟩ ∧ SRow W 0 (Cm.v x.2) (x.2.1.map bat) ∧ g ∈ ow ∧ (g ∈ own ∨ w0.heap.size ≤ g)
  dif : pre.Pairwise fun x y => ∀ a b, x.2.2.1 = some a → y.2.2.1 = some b → a.block ≠ b.block
  mt : bt ∈ ow
  ml : bl ∈ ow
  mv : ∀ k, vv.ownBlock = some k → k ∈ ow
  ne : bt ≠ bl
  lst : (pre = [] ∧ last = 0) ∨ (got s).length + last = (encs (cms pre)).length
section
variable {w0 : World} {bt bl : Nat} {own : List Nat} {s : St} {ow : List Nat} {pre : List Yx} {W W' : World} {vv : Value} {last : Nat}
theorem FI.only (h : FI w0 bt bl own s ow pre W vv last) {o : List Nat} (k : Only o W W') (hn : ∀ x ∈ ow, x ∉ o) : FI w0 bt bl own s ow pre W' vv last where
  tb := h.tb.only k (hn _ h.mt)
  lb := h.lb.only k (hn _ h.ml)
  row := row_only h.row k (fun x hx e => hn x (h.mv x e) hx)
  rd := fun x hx => by
    obtain ⟨g, e, r, m, q⟩ := h.rd x hx
    exact ⟨g, e, row_only r k (fun y hy e2 => by unfold Cm.v at e2; rw [e] at e2; simp [Value.ownBlock] at e2; subst e2; exact hn _ m hy), m, q⟩
  dif := h.dif
  mt := h.mt
  ml := h.ml
  mv := h.mv
  ne := h.ne
  lst := h.lst
theorem FI.below (h : FI w0 bt bl own s ow pre W vv last) (k : Below W.heap.size W W') : FI w0 bt bl own s ow pre W' vv last := h.only (Only.of_below [] k) (by simp)

theorem FI.after (h : FI w0 bt bl own s ow pre W vv last) {arr : Obj} {w3 : World} (hgr : (W.alloc arr).grownBy w3 vv.ownBlock) :
    Box w3 bt 27 #[vv] ∧ Box w3 bl 3 #[.int .i64 (last : Nat)] := by
  have h1 : Box (W.alloc arr) bt 27 #[vv] := h.tb.alloc arr
  have h2 : Box (W.alloc arr) bl 3 #[.int .i64 (last : Nat)] := h.lb.alloc arr
  have hr := h.row.alloc arr
  exact ⟨(hgr.block bt h1.lt (fun e => row_box hr h1 (by decide) e.symm)).trans h1, (hgr.block bl h2.lt (fun e => row_box hr h2 (by decide) e.symm)).trans h2⟩
/-- one comes behind -/
theorem FI.push (h : FI w0 bt bl own s ow pre W vv last) {arr : Obj} {w3 : World} {x : Yx} {g g' n cap : Nat} (hg : x.2.2.1 = some ⟨g, 0, none⟩) (hr : SRow W 0 (Cm.v x.2) (x.2.1.map bat)) (hgo : g ∈ own ∨ w0.heap.size ≤ g) (hgw : g ∉ ow) (hlt : ∀ y ∈ ow, y < W.heap.size)
    (henc : (got s).length + x.1 = (encs (cms (pre ++ [x]))).length)
    (hown : w3.ownsRow w0.heap.size 36 1 (.slice (some ⟨g', 0, none⟩) n cap) (pre.length + 1) ((pre.map fun x => Cm.v x.2) ++ [Cm.v x.2])) (hgr : (W.alloc arr).grownBy w3 vv.ownBlock)
    (hob : (Value.slice (some ⟨g', 0, none⟩) n cap).ownBlock = vv.ownBlock ∨ (Value.slice (some ⟨g', 0, none⟩) n cap).ownBlock = some (W.alloc arr).heap.size) :
    FI w0 bt bl own s (g :: g' :: ow) (pre ++ [x]) ((w3.setCell ⟨bt, 0, none⟩ (.slice (some ⟨g', 0, none⟩) n cap)).setCell ⟨bl, 0, none⟩ (.int .i64 (x.1 : Nat))) (.slice (some ⟨g', 0, none⟩) n cap) x.1 ∧
      Only ow W ((w3.setCell ⟨bt, 0, none⟩ (.slice (some ⟨g', 0, none⟩) n cap)).setCell ⟨bl, 0, none⟩ (.int .i64 (x.1 : Nat))) ∧
      ∀ y ∈ g :: g' :: ow, (y ∈ ow ∨ y ∈ Rel x ∨ W.heap.size ≤ y) ∧ y < ((w3.setCell ⟨bt, 0, none⟩ (.slice (some ⟨g', 0, none⟩) n cap)).setCell ⟨bl, 0, none⟩ (.int .i64 (x.1 : Nat))).heap.size := by
  obtain ⟨b1, b2⟩ := h.after hgr
  have hra := h.row.alloc arr
  have hsz : W.heap.size ≤ w3.heap.size := Nat.le_trans (by simp) hgr.size
  have o3 : Only ow W w3 := ((Only.refl _ W).alloc arr).grown hgr (fun k e => .inl (h.mv k e))
  have s1 : Only [bt] w3 (w3.setCell ⟨bt, 0, none⟩ (.slice (some ⟨g', 0, none⟩) n cap)) := (Only.refl [bt] w3).set (p := ⟨bt, 0, none⟩) (by simp) _
  have c1 := b1.set 0 (.slice (some ⟨g', 0, none⟩) n cap)
  have c2 := b2.far (Ne.symm h.ne) 0 (.slice (some ⟨g', 0, none⟩) n cap)
  generalize hw4 : w3.setCell ⟨bt, 0, none⟩ (.slice (some ⟨g', 0, none⟩) n cap) = w4 at s1 c1 c2
  have s2 : Only [bl] w4 (w4.setCell ⟨bl, 0, none⟩ (.int .i64 (x.1 : Nat))) := (Only.refl [bl] w4).set (p := ⟨bl, 0, none⟩) (by simp) _
  have d1 := c1.far h.ne 0 (.int .i64 (x.1 : Nat))
  have d2 := c2.set 0 (.int .i64 (x.1 : Nat))
  have hz5 : (w4.setCell ⟨bl, 0, none⟩ (.int .i64 (x.1 : Nat))).heap.size = w3.heap.size := by rw [← hw4]; simp [World.setCell]
  generalize w4.setCell ⟨bl, 0, none⟩ (.int .i64 (x.1 : Nat)) = w5 at s2 d1 d2 hz5 ⊢
  have mv : ∀ {B n : Nat} {T : TypeId} {v : Value} {xs : List Value}, w3.ownsRow B T 1 v n xs → T ≠ 27 → T ≠ 3 → w5.ownsRow B T 1 v n xs := fun hh h1 h2 => by
    have hh4 := row_only hh s1 (fun y hy e => by rw [List.mem_singleton] at hy; subst hy; exact row_box hh b1 h1 e)
    exact row_only hh4 s2 (fun y hy e => by rw [List.mem_singleton] at hy; subst hy; exact row_box hh4 c2 h2 e)
  have ms : ∀ {v : Value} {ps : List ByteArray}, SRow W 0 v ps → SRow w5 0 v ps := fun hh => mv (World.ownsRow.kept (SRow.alloc hh arr) hgr (own_ne (SRow.alloc hh arr) hra (by decide))) (by decide) (by decide)
  have hg3 : g' < w3.heap.size := (World.ownsRow.lt hown g' rfl).2
  have hgb : g' ∈ ow ∨ W.heap.size ≤ g' := by
    rcases hob with e | e
    · exact .inl (h.mv g' e.symm)
    · simp only [Value.ownBlock, Option.some.injEq] at e
      rw [e]; exact .inr (by simp)
  have hgl : g < W.heap.size := by
    have := World.ownsRow.lt hr g (by unfold Cm.v; rw [hg]; rfl)
    exact this.2
  refine ⟨⟨d1, d2, ?_, fun y hy => ?_, ?_, by simp [h.mt], by simp [h.ml], fun k e => by simp only [Value.ownBlock, Option.some.injEq] at e; simp [e], h.ne, .inr henc⟩, (o3.trans s1 (fun y hy => .inl (by rw [List.mem_singleton] at hy; subst hy; exact h.mt))).trans s2 (fun y hy => .inl (by rw [List.mem_singleton] at hy; subst hy; exact h.ml)), fun y hy => ?_⟩
  · rw [List.length_append, List.length_singleton, List.map_append, List.map_singleton]
    exact mv hown (by decide) (by decide)
  · rcases List.mem_append.1 hy with hy | hy
    · obtain ⟨k, e, r, m, q⟩ := h.rd y hy
      exact ⟨k, e, ms r, by simp [m], q⟩
    · rw [List.mem_singleton] at hy
      subst hy
      exact ⟨g, hg, ms hr, by simp, hgo⟩
  · rw [List.pairwise_append]
    refine ⟨h.dif, by simp, fun y hy z hz a b ea eb => ?_⟩
    rw [List.mem_singleton] at hz
    subst hz
    obtain ⟨k, e, _, m, _⟩ := h.rd y hy
    rw [e] at ea
    rw [hg] at eb
    injection ea with ea
    injection eb with eb
    subst ea eb
    intro e2
    dsimp only at e2
    exact hgw (e2 ▸ m)
  · rw [hz5]
    rcases List.mem_cons.1 hy with rfl | hy
    · exact ⟨.inr (.inl (by simp [Rel, hg])), by omega⟩
    · rcases List.mem_cons.1 hy with rfl | hy
      · exact ⟨hgb.imp id .inr, hg3⟩
      · exact ⟨.inl hy, by have := hlt y hy; omega⟩
end
end Go.Proofs.Ytgjedhdnnfdcgaa.Rp
