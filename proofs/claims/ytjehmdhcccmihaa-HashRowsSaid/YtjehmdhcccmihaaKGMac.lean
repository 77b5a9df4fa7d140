/-
  A pool of workers and its caller: what holds of the trace. No function of the program is named here.
-/
import Derived.Conc.CrowdCom2
import Derived.Conc.Beside
import Derived.Conc.CrowdSel
import Derived.Conc.CrowdRun
namespace Go.Proofs.Ytjehmdhcccmihaa
open Go.Conc Go.ConcN
open Go.ConcR (stA smA g_of_ofEvents)
namespace Pool

/-- a cell of the block C -/
def InC (C : Nat) (l : Loc) : Prop := ∃ a, l = .cell a ∧ a.block = C

/-- What holds of the trace T while goroutines c0 .. j work: n0 of its operations are older than they. -/
structure PT (Shun : Loc → Prop) (Wg C c0 Bd n0 : Nat) (own : Nat → Nat) (K j : Nat) (T : Trace) : Prop where
  quiet : Quiet (ShN Wg) T
  wr : ∀ g, (g = 0 ∨ (c0 ≤ g ∧ g ≤ j)) → ∀ i a, touchAt T i = some a → a.loc.isMemory = true → a.write = true → ¬ ShN Wg a.loc → ¬ InC C a.loc → Knows T g i ∨ (Shun a.loc ∧ a.kind = .atomic)
  cell : ∀ i a, touchAt T i = some a → InC C a.loc → ∃ k, k < K ∧ a.loc = .cell ⟨C, k, none⟩ ∧ T.g? i = some (own k)
  old : ∀ i a, i < n0 → touchAt T i = some a → a.loc.isMemory = true → Knows T 0 i ∨ (Shun a.loc ∧ a.kind = .atomic)
  new : ∀ i a g, n0 ≤ i → touchAt T i = some a → T.g? i = some g → (g = 0 ∨ (c0 ≤ g ∧ g ≤ j)) ∧ (a.kind = .atomic → ShN Wg a.loc ∨ g = 0)
  nr : ∀ said, ¬ Race said T
  over : ∀ i g, i < n0 → T.g? i = some g → g ≠ 0 → T.counts i → ∃ q, T.g? q = some 0 ∧ HappensBefore T i q
  seen : ∀ op ∈ T, op.act.low Bd
  len : n0 ≤ T.size

/-- What an operation of goroutine g's may be. -/
def OkP (Shun : Loc → Prop) (Wg C Bd : Nat) (own : Nat → Nat) (K g : Nat) (op : MemOp) : Prop :=
  op.g = g ∧ op.act.low Bd ∧ ∀ x, op.act.touch? = some x →
    (ShN Wg x.loc ∧ x.kind ≠ .plain ∧ (x.kind = .said → g = 0)) ∨
    (∃ k, k < K ∧ x.loc = .cell ⟨C, k, none⟩ ∧ own k = g ∧ x.kind = .plain) ∨
    (¬ ShN Wg x.loc ∧ ¬ InC C x.loc ∧ ¬ Shun x.loc ∧ x.write = false ∧ x.kind = .plain) ∨
    (¬ ShN Wg x.loc ∧ ¬ InC C x.loc ∧ x.write = false ∧ x.kind = .atomic ∧ g = 0)

section
variable {Shun : Loc → Prop} {Wg C c0 Bd n0 : Nat} {own : Nat → Nat} {K j : Nat} {T u : Trace}

theorem touch_cases {i : Nat} {a : Touch} (h : touchAt (T ++ u) i = some a) : (i < T.size ∧ touchAt T i = some a) ∨ (T.size ≤ i ∧ ∃ op ∈ u, (T ++ u)[i]? = some op ∧ op.act.touch? = some a) := by
  obtain ⟨x, hx, hxa⟩ := touch_of h
  rcases getElem?_append_cases hx with ⟨hi, hx'⟩ | ⟨hi, hxu⟩
  · exact .inl ⟨hi, by rw [touchAt_of hx']; exact hxa⟩
  · exact .inr ⟨hi, x, hxu, hx, hxa⟩

theorem lt_of_g? {q g : Nat} (h : T.g? q = some g) : q < T.size := by
  unfold Trace.g? at h
  obtain ⟨z, hz, _⟩ := Option.map_eq_some_iff.1 h
  exact lt_size_of_getElem? hz

theorem over_app {i : Nat} (h : ∃ q, T.g? q = some 0 ∧ HappensBefore T i q) : ∃ q, (T ++ u).g? q = some 0 ∧ HappensBefore (T ++ u) i q :=
  let ⟨q, hq, hb⟩ := h; ⟨q, by rw [g?_old (lt_of_g? hq)]; exact hq, hb_app u hb⟩

/-- Operations of one goroutine are appended. -/
theorem PT.app (hCW : C ≠ Wg) (h : PT Shun Wg C c0 Bd n0 own K j T) {g : Nat} (hu : ∀ op ∈ u, OkP Shun Wg C Bd own K g op)
    (hg : (g = 0 ∨ (c0 ≤ g ∧ g ≤ j)) ∨ ∀ op ∈ u, op.act.touch? = none) : PT Shun Wg C c0 Bd n0 own K j (T ++ u) := by
  have hgt : ∀ op ∈ u, ∀ x, op.act.touch? = some x → (g = 0 ∨ (c0 ≤ g ∧ g ≤ j)) := fun op hop x hx => by
    rcases hg with hg | hg
    · exact hg
    · rw [hg op hop] at hx; cases hx
  have hlt : n0 ≤ (T ++ u).size := by have := h.len; simp; omega
  refine ⟨h.quiet.app fun op hop x hx hs => ?_, fun g' hg' i a ha hm hw hs hc => ?_, fun i a ha hc => ?_, fun i a hi ha hm => ?_, fun i a g' hi ha hgi => ?_, fun said => ?_, fun i g' hi hgi hne hcn => ?_, seen_app h.seen fun op hop => (hu op hop).2.1, hlt⟩
  · rcases (hu op hop).2.2 x hx with ⟨_, hk, hsd⟩ | ⟨k, _, hl, _⟩ | ⟨hn, _⟩ | ⟨hn, _⟩
    · exact ⟨hk, fun e => (hu op hop).1.trans (hsd e)⟩
    · obtain ⟨a, ha, hb⟩ := hs
      rw [hl] at ha
      cases ha
      exact absurd hb hCW
    · exact absurd hs hn
    · exact absurd hs hn
  · rcases touch_cases ha with ⟨_, ha'⟩ | ⟨_, op, hop, _, hx⟩
    · exact (h.wr g' hg' i a ha' hm hw hs hc).imp (·.app u) id
    · rcases (hu op hop).2.2 a hx with ⟨hs', _⟩ | ⟨k, _, hl, _⟩ | ⟨_, _, _, hf, _⟩ | ⟨_, _, hf, _⟩
      · exact absurd hs' hs
      · exact absurd ⟨_, hl, rfl⟩ hc
      · rw [hf] at hw; cases hw
      · rw [hf] at hw; cases hw
  · rcases touch_cases ha with ⟨hi, ha'⟩ | ⟨_, op, hop, ho, hx⟩
    · obtain ⟨k, hk, hl, hgk⟩ := h.cell i a ha' hc
      exact ⟨k, hk, hl, by rw [g?_old hi]; exact hgk⟩
    · rcases (hu op hop).2.2 a hx with ⟨⟨x, hx1, hx2⟩, _⟩ | ⟨k, hk, hl, he, _⟩ | ⟨_, hn, _⟩ | ⟨_, hn, _⟩
      · obtain ⟨y, hy1, hy2⟩ := hc
        rw [hx1] at hy1
        cases hy1
        exact absurd (hy2.symm.trans hx2) hCW
      · exact ⟨k, hk, hl, by simp [Trace.g?, ho, (hu op hop).1, he]⟩
      · exact absurd hc hn
      · exact absurd hc hn
  · rcases touch_cases ha with ⟨_, ha'⟩ | ⟨hge, _⟩
    · exact (h.old i a hi ha' hm).imp (·.app u) id
    · have := h.len; omega
  · rcases touch_cases ha with ⟨hlt', ha'⟩ | ⟨_, op, hop, ho, hx⟩
    · exact h.new i a g' hi ha' (by rw [← g?_old (u := u) hlt']; exact hgi)
    · have e : g' = g := by simp [Trace.g?, ho, (hu op hop).1] at hgi; exact hgi.symm
      subst e
      refine ⟨hgt op hop a hx, fun hk => ?_⟩
      rcases (hu op hop).2.2 a hx with ⟨hs, _⟩ | ⟨_, _, _, _, hp⟩ | ⟨_, _, _, _, hp⟩ | ⟨_, _, _, _, hn⟩
      · exact .inl hs
      · rw [hp] at hk; cases hk
      · rw [hp] at hk; cases hk
      · exact .inr hn
  · refine noRace_append (h.nr said) (fun op hop => (hu op hop).1) fun i a ha op hop b hb hcf => ?_
    rcases (hu op hop).2.2 b hb with ⟨hs, hk, hsd⟩ | ⟨k, _, hl, he, _⟩ | ⟨hns, hnc, hnsh, hf, _⟩ | ⟨hns, hnc, hf, hk, _⟩
    · exact h.quiet.known hs hk hsd i a ha hcf
    · obtain ⟨k', _, hl', hgk⟩ := h.cell i a ha ⟨_, hcf.1.trans hl, rfl⟩
      rw [hcf.1, hl] at hl'
      cases hl'
      obtain ⟨z, hz, hzg⟩ := Option.map_eq_some_iff.1 hgk
      have := knows_own hz
      rwa [hzg, he] at this
    · have hw : a.write = true := by
        rcases hcf.2.2.1 with x | x
        · exact x
        · rw [hf] at x; cases x
      rcases h.wr g (hgt op hop b hb) i a ha hcf.2.1 hw (by rw [hcf.1]; exact hns) (by rw [hcf.1]; exact hnc) with x | ⟨x, _⟩
      · exact x
      · rw [hcf.1] at x; exact absurd x hnsh
    · have hw : a.write = true := by
        rcases hcf.2.2.1 with x | x
        · exact x
        · rw [hf] at x; cases x
      rcases h.wr g (hgt op hop b hb) i a ha hcf.2.1 hw (by rw [hcf.1]; exact hns) (by rw [hcf.1]; exact hnc) with x | ⟨_, x⟩
      · exact x
      · rcases hcf.2.2.2 with y | y | ⟨_, _, y⟩
        · rw [x] at y; cases y
        · rw [hk] at y; cases y
        · rw [hk] at y; cases y
  · have hi' : i < T.size := Nat.lt_of_lt_of_le hi h.len
    exact over_app (h.over i g' hi (by rw [← g?_old (u := u) hi']; exact hgi) hne ((counts_old hi').1 hcn))

/-- Operations that touch nothing are appended, whosesoever. -/
theorem PT.mutes (hCW : C ≠ Wg) : ∀ (l : List MemOp) (T : Trace), PT Shun Wg C c0 Bd n0 own K j T → (∀ op ∈ l, op.act.touch? = none ∧ op.act.low Bd) → PT Shun Wg C c0 Bd n0 own K j (T ++ l.toArray)
  | [], T, h, _ => by simpa using h
  | x :: l, T, h, hl => by
    have e : T ++ (x :: l).toArray = (T ++ #[x]) ++ l.toArray := by simp
    rw [e]
    refine PT.mutes hCW l _ (h.app hCW (g := x.g) (fun op hop => ?_) (.inr fun op hop => ?_)) fun op hop => hl op (by simp [hop])
    · have : op = x := by simpa using hop
      subst this
      refine ⟨rfl, (hl op (by simp)).2, fun y hy => ?_⟩
      rw [(hl op (by simp)).1] at hy; cases hy
    · have : op = x := by simpa using hop
      subst this
      exact (hl op (by simp)).1

/-- A go STATEMENT: goroutine j + 1 is started. -/
theorem PT.fork (hCW : C ≠ Wg) (h : PT Shun Wg C c0 Bd n0 own K j T) {x y : MemOp} (hx : x.g = 0 ∧ x.act = .go (j + 1)) (hy : y.g = j + 1 ∧ y.act = .start) (h0 : Deaf T 0 = 0) (hk : Deaf T (j + 1) = 0) :
    PT Shun Wg C c0 Bd n0 own K (j + 1) (T ++ #[x, y]) := by
  have hnt : ∀ op ∈ [x, y], op.act.touch? = none ∧ op.act.low Bd := by
    intro op hop
    simp only [List.mem_cons, List.not_mem_nil, or_false] at hop
    rcases hop with rfl | rfl
    · rw [hx.2]; exact ⟨rfl, trivial⟩
    · rw [hy.2]; exact ⟨rfl, trivial⟩
  have hm := PT.mutes hCW [x, y] T h hnt
  refine ⟨hm.quiet, fun g hg i a ha hme hw hs hc => ?_, hm.cell, hm.old, fun i a g hi ha hgi => ?_, hm.nr, hm.over, hm.seen, hm.len⟩
  · by_cases e : g = j + 1
    · subst e
      have ha' : touchAt T i = some a := by
        rcases touch_cases ha with ⟨_, h1⟩ | ⟨_, op, hop, _, h2⟩
        · exact h1
        · rw [(hnt op (by simpa using hop)).1] at h2; cases h2
      rcases h.wr 0 (.inl rfl) i a ha' hme hw hs hc with h1 | h1
      · exact .inl (fork_knows hx hy h0 hk h1)
      · exact .inr h1
    · exact hm.wr g (by omega) i a ha hme hw hs hc
  · obtain ⟨h1, h2⟩ := hm.new i a g hi ha hgi
    exact ⟨by omega, h2⟩

/-- One place more is given away. -/
theorem PT.give (h : PT Shun Wg C c0 Bd n0 own K j T) (g : Nat) : PT Shun Wg C c0 Bd n0 (upd own K g) (K + 1) j T :=
  ⟨h.quiet, h.wr, fun i a ha hc => by
    obtain ⟨k, hk, hl, hgk⟩ := h.cell i a ha hc
    exact ⟨k, by omega, hl, by rw [upd_ne own g (by omega)]; exact hgk⟩, h.old, h.new, h.nr, h.over, h.seen, h.len⟩

/-- The beginning: a frame in which nobody has touched the new blocks. -/
theorem PT.begin {B : Nat} (h : Past Shun B T) (hB : B ≤ Bd) (low : ∀ i a x, touchAt T i = some a → a.loc = .cell x → x.block ≠ Wg ∧ x.block ≠ C) (hc : j < c0) : PT Shun Wg C c0 Bd T.size own 0 j T := by
  refine ⟨fun i op x hi hx ⟨a, ha, hb⟩ => ?_, fun g hg i a ha hm _ _ _ => ?_, fun i a ha ⟨x, hx, hb⟩ => ?_, fun i a _ ha hm => h.known i a ha hm, fun i a g hi ha _ => ?_, h.clean, fun i g _ hg hne hcn => h.over i g hg hne hcn, fun op hop => MemAct.low_mono hB (h.seen op hop), Nat.le_refl _⟩
  · exact absurd hb (low i x a (by rw [touchAt_of hi]; exact hx) ha).1
  · rcases hg with rfl | ⟨_, _⟩
    · exact h.known i a ha hm
    · omega
  · exact absurd hb (low i a x ha hx).2
  · obtain ⟨op, hop, _⟩ := touch_of ha
    have := lt_size_of_getElem? hop
    omega

/-- The caller has said 'acquire', hearing, behind every worker's release. -/
def Acq (Wg c0 j : Nat) (T : Trace) : Prop :=
  ∃ q, T.act? q = some (.mark (.acquire (stA Wg))) ∧ T.g? q = some 0 ∧ T.heard q ∧ ∀ g, c0 ≤ g → g ≤ j → ∃ r, RelBy (stA Wg) T g r ∧ r < q

/-- The end: a frame again. -/
theorem PT.past (h : PT Shun Wg C c0 Bd n0 own K j T) (hA : Acq Wg c0 j T) (hn : NoRelease (stA Wg) T) (hd : Deaf T 0 = 0) : Past (fun l => Shun l ∨ ShN Wg l) Bd T := by
  obtain ⟨q, hq, hqg, hqh, hall⟩ := hA
  obtain ⟨z, hz, hzg⟩ := Option.map_eq_some_iff.1 hqg
  have before : ∀ g i r, RelBy (stA Wg) T g r → r < q → T.g? i = some g → i ≤ r → HappensBefore T i q := by
    intro g i r hr hrq hgi hir
    have edge : HappensBefore T r q := .single (.inr ⟨.marked hrq (.inr hr.act) hq (fun k _ _ => hn k), hr.heard, hqh⟩)
    rcases Nat.lt_or_ge i r with hlt | hge
    · exact .trans (.single (.inl ⟨hlt, g, hgi, hr.g⟩)) edge
    · obtain rfl : i = r := by omega
      exact edge
  refine ⟨h.nr, fun i a ha hm => ?_, fun i g hgi hne hcn => ?_, hd, h.seen⟩
  · rcases Nat.lt_or_ge i n0 with hi | hi
    · exact (h.old i a hi ha hm).imp id fun ⟨x, y⟩ => ⟨.inl x, y⟩
    · obtain ⟨x, hx, hxa⟩ := touch_of ha
      have hgi : T.g? i = some x.g := by simp [Trace.g?, hx]
      obtain ⟨h1, h2⟩ := h.new i a x.g hi ha hgi
      rcases h1 with e | ⟨e1, e2⟩
      · have := knows_own hx
        rw [e] at this
        exact .inl this
      · obtain ⟨r, hr, hrq⟩ := hall x.g e1 e2
        rcases Nat.lt_or_ge r i with hlt | hle
        · have hnc := hr.after i hlt hgi
          have hk : a.kind = .atomic := by
            by_cases hk : a.kind = .atomic
            · exact hk
            · exact absurd ⟨a, ha, hm, .inl hk⟩ hnc
          rcases h2 hk with h3 | h3
          · exact .inr ⟨.inr h3, hk⟩
          · have := knows_own hx
            rw [h3] at this
            exact .inl this
        · exact .inl ⟨q, z, hz, hzg, .inr (before x.g i r hr hrq hgi hle)⟩
  · rcases Nat.lt_or_ge i n0 with hi | hi
    · exact h.over i g hi hgi hne hcn
    · obtain ⟨a, ha, _⟩ := id hcn
      obtain ⟨h1, _⟩ := h.new i a g hi ha hgi
      rcases h1 with e | ⟨e1, e2⟩
      · exact absurd e hne
      · obtain ⟨r, hr, hrq⟩ := hall g e1 e2
        rcases Nat.lt_or_ge r i with hlt | hle
        · exact absurd hcn (hr.after i hlt hgi)
        · exact ⟨q, hqg, before g i r hr hrq hgi hle⟩
end
end Pool
end Go.Proofs.Ytjehmdhcccmihaa
/-
  A pool of workers and its caller: what is asked of each goroutine. The caller starts workers (each behind an Add(1)), sends places over a channel without a buffer, closes another channel, and waits; a worker waits for a place or for the end, writes the cell of each place that it is given, and says Done. No function of the program is named here.
-/
namespace Go.Proofs.Ytjehmdhcccmihaa
open Go.Conc Go.ConcN
open Go.ConcR (KK wgBlock WgAt stA smA rd wr mk Payload Aside2 DC0 g_of_ofEvents)
namespace Pool

/-- The blocks (the group; what is written; the channel of places; the channel of the end; one that stands), and the numbers. -/
structure Cfg where
  ty : TypeId
  Wg : Nat
  C : Nat
  Cp : Nat
  Cd : Nat
  Cx : Nat
  N : Nat
  ety : TypeId
  z0 : Value
  z1 : Value
  zs : Value
  xv : Value
  val : Nat → Value
  Shun : Loc → Prop
  Bd : Nat
  c0 : Nat
  n0 : Nat

/-- They lie apart, and low. -/
structure Cfg.Fit (E : Cfg) : Prop where
  CW : E.C ≠ E.Wg
  PW : E.Cp ≠ E.Wg
  DW : E.Cd ≠ E.Wg
  CP : E.C ≠ E.Cp
  CD : E.C ≠ E.Cd
  PD : E.Cp ≠ E.Cd
  XW : E.Cx ≠ E.Wg
  XC : E.Cx ≠ E.C
  XP : E.Cx ≠ E.Cp
  XD : E.Cx ≠ E.Cd
  W : E.Wg < E.Bd
  CB : E.C < E.Bd
  PB : E.Cp < E.Bd
  DB : E.Cd < E.Bd
  c0 : 0 < E.c0

def place (k : Nat) : Value := .int .i64 k

/-- What is written is a row of N cells. -/
def MadeOk (E : Cfg) (w : World) : Prop := ∃ arr, w.heap[E.C]? = some (.cells arr E.ety) ∧ arr.size = E.N

/-- What anybody suffers from the others. -/
structure RP (E : Cfg) (w w₁ : World) : Prop where
  tape : w₁.tape = w.tape
  os : w₁.os = w.os
  output : w₁.output = w.output
  size : w₁.heap.size = w.heap.size
  block : ∀ b, b ≠ E.C → b ≠ E.Wg → b ≠ E.Cp → b ≠ E.Cd → w₁.heap[b]? = w.heap[b]?
  live : WgLive E.ty E.Wg w → WgLive E.ty E.Wg w₁
  made : MadeOk E w → MadeOk E w₁

/-- What a step may list: a plain read of a place that nobody writes; a touch of the group's cells that is not plain. -/
def EvOk (E : Cfg) (main : Bool) (e : Event) : Prop :=
  (MemAct.ofEvent e).low E.Bd ∧ (∀ x, (MemAct.ofEvent e).touch? = some x → (ShN E.Wg x.loc ∧ x.kind ≠ .plain ∧ (x.kind = .said → main = true)) ∨ (¬ ShN E.Wg x.loc ∧ ¬ InC E.C x.loc ∧ ¬ E.Shun x.loc ∧ x.write = false ∧ x.kind = .plain)) ∧
  e.loc ≠ .mark .disable ∧ e.loc ≠ .mark .enable ∧ e.loc ≠ .mark (.release (stA E.Wg))

/-- An idle step: the count of draws alone turns. -/
def DR (E : Cfg) (main : Bool) (w w' : World) (es : Array Event) : Prop := (∃ d, w' = w.at d) ∧ ∀ e ∈ es, EvOk E main e

def selCases (E : Cfg) : Array CommCase := #[rcase E.Cp E.z0, rcase E.Cd E.z1]
def sendCases (E : Cfg) (k : Nat) : Array CommCase := #[scase E.Cp (place k) E.zs]

section
variable [Payload] (P : Program) (E : Cfg)
abbrev GoW (Stop : Goroutine → World → Prop) := Goes P false (RP E) (DR E false) Stop
abbrev GoC (Stop : Goroutine → World → Prop) := Goes P true (RP E) (DR E true) Stop
/-- What a worker suffers once it has released. -/
abbrev RW0 := RW E.ty E.Wg E.Cx 1 0 0

/-! ### a worker -/
/-- Ahead of its release. -/
abbrev AtRel0 := AtR0 P E.ty E.Wg E.Cx 1 0 1 E.xv
/-- Ahead of the store of place k. -/
def AtSt (Next : Goroutine → World → Prop) (k : Nat) (g : Goroutine) (w : World) : Prop :=
  g.status = .running ∧ (MadeOk E w → ∃ g', stepG P false g w = .go g' (w.setCell ⟨E.C, k, none⟩ (E.val k)) #[⟨.cell ⟨E.C, k, none⟩, true, false⟩] ∧ ∃ m, GoW P E Next m g' (w.setCell ⟨E.C, k, none⟩ (E.val k)))
/-- At the communication; whatever it offered before. -/
def AtSelOf (X : Goroutine → World → Prop) (g : Goroutine) (w : World) : Prop := ∃ g₂ o, g = { g₂ with offers := o } ∧ g₂.status = .running ∧ X g₂ w
def SelEnd (g : Goroutine) (w : World) : Prop :=
  g.offers = none ∧ stepG P false g w = .comm g (selCases E) true .select w #[] ∧ ∃ m, GoW P E (AtRel0 P E) m (g.finishComm P (selCases E) .select 1 E.z1 false) w
/-- The communication, r places at the most being still to come. -/
def SelCore : Nat → Goroutine → World → Prop
  | 0, g, w => SelEnd P E g w
  | r + 1, g, w => SelEnd P E g w ∧ ∀ k, k < E.N → ∃ m, GoW P E (AtSt P E (AtSelOf (SelCore r)) k) m (g.finishComm P (selCases E) .select 0 (place k) true) w
abbrev AtSel (r : Nat) := AtSelOf (SelCore P E r)

/-! ### the caller, from its end backwards -/
section
variable (Fin Anch : Goroutine → World → Prop)
def AtMark (m : Mark) (Next : Goroutine → World → Prop) (g : Goroutine) (w : World) : Prop :=
  g.status = .running ∧ ∃ g', stepG P true g w = .go g' w #[mk m] ∧ ∃ n, GoC P E Next n g' w
def AtAcq (g : Goroutine) (w : World) : Prop :=
  g.status = .running ∧ ∃ g', stepG P true g w = .go g' w #[mk (.acquire (stA E.Wg))] ∧ g'.status = .running ∧ ∀ w₁, RP E w w₁ → Fin g' w₁
def AtKe : Goroutine → World → Prop := AtMark P E .enable (AtAcq P E Fin)
def AtW4 (g : Goroutine) (w : World) : Prop :=
  g.status = .running ∧ (WgAt E.ty E.Wg w 0 0 → ∃ g', stepG P true g w = .go g' w #[rd (stA E.Wg)] ∧ ∃ m, GoC P E (AtKe P E Fin) m g' w)
def AtW3 (g : Goroutine) (w : World) : Prop :=
  g.status = .running ∧ g.offers = none ∧
    ((∃ st, WgAt E.ty E.Wg w st 0) → stepG P true g w = .go { g with status := .blocked } w #[]) ∧
    (WgAt E.ty E.Wg w 0 1 → ∃ g', stepG P true g w = .go g' (w.setCell (smA E.Wg) (.int .u32 0)) (semEvents (smA E.Wg)) ∧ ∃ m, GoC P E (AtW4 P E Fin) m g' (w.setCell (smA E.Wg) (.int .u32 0)))
def AtW2 (vs : Nat) (g : Goroutine) (w : World) : Prop :=
  g.status = .running ∧ ∀ v : Nat, v < 2147483648 → WgAt E.ty E.Wg w (v * KK) 0 →
    (v = vs → ∃ g', stepG P true g w = .go g' (w.setCell (stA E.Wg) (.int .u64 (v * KK + 1))) #[rd (stA E.Wg), wr (stA E.Wg)] ∧ ∃ m, GoC P E (AtW3 P E Fin) m g' (w.setCell (stA E.Wg) (.int .u64 (v * KK + 1)))) ∧
    (v ≠ vs → ∃ g', stepG P true g w = .go g' w #[rd (stA E.Wg)] ∧ ∃ m, GoC P E Anch m g' w)
def AtW1 (g : Goroutine) (w : World) : Prop :=
  g.status = .running ∧ ∀ v : Nat, v < 2147483648 → WgAt E.ty E.Wg w (v * KK) 0 → ∃ g', stepG P true g w = .go g' w #[rd (stA E.Wg)] ∧
    (v = 0 → ∃ m, GoC P E (AtKe P E Fin) m g' w) ∧ (v ≠ 0 → ∃ m, GoC P E (AtW2 P E Fin Anch v) m g' w)
end
section
variable (Next : Goroutine → World → Prop)
/-- close(done). -/
def AtClose (g : Goroutine) (w : World) : Prop :=
  g.status = .running ∧ mayWake P g = true ∧ ∀ s r, w.heap[E.Cd]? = some (.chan 0 #[] false s r false) →
    ∃ g', stepG P true g w = .go g' (w.setChan E.Cd 0 #[] true s r false) #[⟨.obj E.Cd, false, true⟩, ⟨.obj E.Cd, true, true⟩] ∧ g'.status = .running ∧ ∃ m, GoC P E Next m g' (w.setChan E.Cd 0 #[] true s r false)
def SendCore (k : Nat) (Then : Goroutine → World → Prop) (g : Goroutine) (w : World) : Prop :=
  stepG P true g w = .comm g (sendCases E k) true .send w #[] ∧ ∃ m, GoC P E Then m (g.finishComm P (sendCases E k) .send 0 undef false) w
/-- r places are still to be sent. -/
def Sends : Nat → Goroutine → World → Prop
  | 0 => AtClose P E Next
  | r + 1 => fun g w => g.status = .running ∧ SendCore P E (E.N - (r + 1)) (Sends r) g w
def AtAdd (Then : Goroutine → World → Prop) (g : Goroutine) (w : World) : Prop :=
  g.status = .running ∧ ∀ v : Nat, v < 2147483647 → WgAt E.ty E.Wg w (v * KK) 0 →
    ∃ g', stepG P true g w = .go g' (w.setCell (stA E.Wg) (.int .u64 ((v + 1) * KK))) #[rd (stA E.Wg), wr (stA E.Wg)] ∧ ∃ m, GoC P E Then m g' (w.setCell (stA E.Wg) (.int .u64 ((v + 1) * KK)))
def AtGo (Then : Goroutine → World → Prop) (g : Goroutine) (w : World) : Prop :=
  g.status = .running ∧ ∃ g' child, stepG P true g w = .spawn g' child w #[] ∧ child.status = .running ∧ (∃ m, GoW P E (AtSel P E E.N) m child w) ∧ ∃ m, GoC P E Then m g' w
/-- r workers are still to be started. -/
def Spawns (Then : Goroutine → World → Prop) : Nat → Goroutine → World → Prop
  | 0 => Then
  | r + 1 => AtMark P E .disable (AtAdd P E (AtMark P E .enable (AtGo P E (Spawns Then r))))
end
end

/-! ### the rely -/
section
variable {E : Cfg} {w w₁ w₂ : World}
theorem RP.refl (w : World) : RP E w w := ⟨rfl, rfl, rfl, rfl, fun _ _ _ _ _ => rfl, id, id⟩
theorem RP.trans (h : RP E w w₁) (h' : RP E w₁ w₂) : RP E w w₂ :=
  ⟨h'.tape.trans h.tape, h'.os.trans h.os, h'.output.trans h.output, h'.size.trans h.size, fun b h1 h2 h3 h4 => (h'.block b h1 h2 h3 h4).trans (h.block b h1 h2 h3 h4), h'.live ∘ h.live, h'.made ∘ h.made⟩
theorem RP.tr : ∀ a b c, RP E a b → RP E b c → RP E a c := fun _ _ _ h h' => h.trans h'
theorem RP.at (w : World) (d : Nat) : RP E w (w.at d) := ⟨rfl, rfl, rfl, rfl, fun _ _ _ _ _ => rfl, id, id⟩
/-- A turn of the group's block. -/
theorem RP.of_wg (F : E.Fit) (h : Aside E.Wg w w₁) (hl : WgLive E.ty E.Wg w₁) : RP E w w₁ :=
  ⟨h.tape, h.os, h.output, h.size, fun b _ hb _ _ => h.block b hb, fun _ => hl, fun ⟨arr, h1, h2⟩ => ⟨arr, (h.block E.C F.CW).trans h1, h2⟩⟩
/-- A turn of a channel. -/
theorem RP.of_chan (F : E.Fit) {c cap s r : Nat} {buf : Array Value} {cl tm : Bool} (hc : c = E.Cp ∨ c = E.Cd) : RP E w (w.setChan c cap buf cl s r tm) := by
  have hb : ∀ b, b ≠ c → (w.setChan c cap buf cl s r tm).heap[b]? = w.heap[b]? := fun b hb => by
    simp only [World.setChan]
    exact Array.getElem?_setIfInBounds_ne (Ne.symm hb)
  have hW : E.Wg ≠ c := by
    rcases hc with rfl | rfl
    · exact F.PW.symm
    · exact F.DW.symm
  have hC : E.C ≠ c := by
    rcases hc with rfl | rfl
    · exact F.CP
    · exact F.CD
  refine ⟨rfl, rfl, rfl, by simp [World.setChan], fun b h1 h2 h3 h4 => hb b (by rcases hc with rfl | rfl <;> assumption), fun ⟨st, sm, hl⟩ => ⟨st, sm, hl.of_block (hb _ hW)⟩, fun ⟨arr, h1, h2⟩ => ⟨arr, (hb _ hC).trans h1, h2⟩⟩
/-- The store of a place. -/
theorem MadeOk.set (h : MadeOk E w) (k : Nat) (v : Value) : ∃ arr, w.heap[E.C]? = some (.cells arr E.ety) ∧ arr.size = E.N ∧ (w.setCell ⟨E.C, k, none⟩ v).heap[E.C]? = some (.cells (arr.setIfInBounds k v) E.ety) := by
  obtain ⟨arr, h1, h2⟩ := h
  refine ⟨arr, h1, h2, ?_⟩
  rw [setCell_eq_setRow w E.C k arr _ (0, 0) _ h1, setRow_heap w E.C _ _ _ _ h1]
theorem RP.of_store (F : E.Fit) (h : MadeOk E w) (k : Nat) (v : Value) : RP E w (w.setCell ⟨E.C, k, none⟩ v) := by
  have hA := aside_setCell w ⟨E.C, k, none⟩ v
  obtain ⟨arr, h1, h2, h3⟩ := h.set k v
  exact ⟨hA.tape, hA.os, hA.output, hA.size, fun b hb _ _ _ => hA.block b hb, fun ⟨st, sm, hl⟩ => ⟨st, sm, hl.of_block (hA.block E.Wg (Ne.symm F.CW))⟩, fun _ => ⟨_, h3, by simpa using h2⟩⟩
/-- To what a worker suffers once it has released. -/
theorem RP.rw0 [Payload] (F : E.Fit) (h : RP E w w₁) : RW0 E w w₁ := by
  have e := h.block E.Cx F.XC F.XW F.XP F.XD
  exact ⟨fun b hb _ _ => by omega, h.live, fun ⟨cs, h1, h2⟩ => ⟨cs, e.trans h1, h2⟩, cell_of_block e 0⟩
end
end Pool
end Go.Proofs.Ytjehmdhcccmihaa
/-
  A pool of workers and its caller: where each stands; how the group's cells hang on where everybody stands.
-/
namespace Go.Proofs.Ytjehmdhcccmihaa
open Go.Conc Go.ConcN
open Go.ConcR (KK wgBlock WgAt stA smA rd wr mk Payload Aside2 DC0 g_of_ofEvents again_blocked)
namespace Pool

section
variable [Payload] (P : Program) (E : Cfg)

/-- A worker: stage, fuel, deafness, the place in its hand. r places at the most are still to come. -/
inductive WS (r : Nat) : Nat → Nat → Nat → Option Nat → Goroutine → World → Prop
  | st {k m : Nat} {g : Goroutine} {w : World} : k < E.N → GoW P E (AtSt P E (AtSel P E r) k) m g w → WS r 10 m 0 (some k) g w
  | sel {m : Nat} {g : Goroutine} {w : World} : GoW P E (AtSel P E r) m g w → WS r 9 m 0 none g w
  | park {g : Goroutine} {w : World} : g.status = .running → (∀ w₁, RP E w w₁ → SelCore P E r g w₁) → WS r 8 0 0 none (parked g (selCases E) .select) w
  | r0 {m : Nat} {g : Goroutine} {w : World} : GoW P E (AtRel0 P E) m g w → WS r 7 m 0 none g w
  | k1 {m : Nat} {g : Goroutine} {w : World} : Goes P false (RW0 E) DC0 (AtK1 P E.ty E.Wg E.Cx 1 0 1) m g w → WS r 6 m 0 none g w
  | d1 {m : Nat} {g : Goroutine} {w : World} : Goes P false (RW0 E) DC0 (AtD1 P E.ty E.Wg E.Cx 1 0 1) m g w → WS r 5 m 1 none g w
  | d2 {m : Nat} {g : Goroutine} {w : World} : Goes P false (RW0 E) DC0 (AtD2 P E.ty E.Wg E.Cx 1 0 1) m g w → WS r 4 m 1 none g w
  | d3 {m : Nat} {g : Goroutine} {w : World} : Goes P false (RW0 E) DC0 (AtD3 P E.ty E.Wg E.Cx 1 0 1) m g w → WS r 3 m 1 none g w
  | d4 {m : Nat} {g : Goroutine} {w : World} : Goes P false (RW0 E) DC0 (AtD4 P E.ty E.Wg) m g w → WS r 2 m 1 none g w
  | quit {q d : Nat} {g : Goroutine} {w : World} : QuitsD P q d g → WS r 1 q d none g w

/-- Where the caller stands. -/
inductive Tag where
  | sp (r s : Nat) | snd (r : Nat) | sblk (r : Nat) | cl | kd | anch | w1 | w2 (vs : Nat) | w3 | blk | w4 | ke | acq

/-- Its rank; n goroutines at the most are counted, N places are sent, v is the count. -/
def phi (n N v : Nat) : Tag → Nat
  | .sp r s => 16 * n + 8 * N + 32 + 16 * r + s
  | .snd r => 16 * n + 8 * r + 24
  | .sblk r => 16 * n + 8 * r + 23
  | .cl => 16 * n + 20
  | .kd => 8 * n + 7
  | .anch => 8 * v + 6
  | .w1 => 8 * v + 5
  | .w2 vs => 8 * vs + 4
  | .w3 => 5
  | .blk => 5
  | .w4 => 4
  | .ke => 3
  | .acq => 2

/-- done is closed. -/
def after : Tag → Prop
  | .sp _ _ | .snd _ | .sblk _ | .cl => False
  | _ => True
/-- As the library's own family of workers names it. -/
def toC : Tag → CTag
  | .sp r s => .sp r s
  | .snd _ | .sblk _ | .cl | .kd => .kd
  | .anch => .anch
  | .w1 => .w1
  | .w2 vs => .w2 vs
  | .w3 => .w3
  | .blk => .blk
  | .w4 => .w4
  | .ke => .ke
  | .acq => .acq

variable (n : Nat) (Fin Anch : Goroutine → World → Prop)
/-- From close(done) on. -/
abbrev Tail : Goroutine → World → Prop := AtMark P E .disable Anch
abbrev SendsT (r : Nat) := Sends P E (Tail P E Anch) r
abbrev SpawnsT (r : Nat) := Spawns P E (SendsT P E Anch E.N) r

/-- tag, how many workers are started, how many places are sent, fuel, deafness. -/
inductive CS : Tag → Nat → Nat → Nat → Nat → Goroutine → World → Prop
  | skd {r m : Nat} {g : Goroutine} {w : World} : r < n → GoC P E (SpawnsT P E Anch (r + 1)) m g w → CS (.sp r 5) (n - (r + 1)) 0 m 0 g w
  | sa1 {r m : Nat} {g : Goroutine} {w : World} : r < n → GoC P E (AtAdd P E (AtMark P E .enable (AtGo P E (SpawnsT P E Anch r)))) m g w → CS (.sp r 4) (n - (r + 1)) 0 m 1 g w
  | ske {r m : Nat} {g : Goroutine} {w : World} : r < n → GoC P E (AtMark P E .enable (AtGo P E (SpawnsT P E Anch r))) m g w → CS (.sp r 3) (n - (r + 1)) 0 m 1 g w
  | sgo {r m : Nat} {g : Goroutine} {w : World} : r < n → GoC P E (AtGo P E (SpawnsT P E Anch r)) m g w → CS (.sp r 2) (n - (r + 1)) 0 m 0 g w
  | snd {r m : Nat} {g : Goroutine} {w : World} : r < E.N → GoC P E (SendsT P E Anch (r + 1)) m g w → CS (.snd r) n (E.N - (r + 1)) m 0 g w
  | sblk {r : Nat} {g : Goroutine} {w : World} : r < E.N → (∀ w₁, RP E w w₁ → SendCore P E (E.N - (r + 1)) (SendsT P E Anch r) g w₁) → CS (.sblk r) n (E.N - (r + 1)) 0 0 (parked g (sendCases E (E.N - (r + 1))) .send) w
  | cl {m : Nat} {g : Goroutine} {w : World} : GoC P E (SendsT P E Anch 0) m g w → CS .cl n E.N m 0 g w
  | kd {m : Nat} {g : Goroutine} {w : World} : GoC P E (Tail P E Anch) m g w → CS .kd n E.N m 0 g w
  | anch {m : Nat} {g : Goroutine} {w : World} : GoC P E Anch m g w → CS .anch n E.N m 1 g w
  | w1 {m : Nat} {g : Goroutine} {w : World} : GoC P E (AtW1 P E Fin Anch) m g w → CS .w1 n E.N m 1 g w
  | w2 {vs m : Nat} {g : Goroutine} {w : World} : GoC P E (AtW2 P E Fin Anch vs) m g w → CS (.w2 vs) n E.N m 1 g w
  | w3 {m : Nat} {g : Goroutine} {w : World} : GoC P E (AtW3 P E Fin) m g w → CS .w3 n E.N (m + 1) 1 g w
  | blk {g : Goroutine} {w : World} : (∀ w₁, RP E w w₁ → AtW3 P E Fin g w₁) → CS .blk n E.N 0 1 { g with status := .blocked } w
  | w4 {m : Nat} {g : Goroutine} {w : World} : GoC P E (AtW4 P E Fin) m g w → CS .w4 n E.N m 1 g w
  | ke {m : Nat} {g : Goroutine} {w : World} : GoC P E (AtKe P E Fin) m g w → CS .ke n E.N m 1 g w
  | acq {m : Nat} {g : Goroutine} {w : World} : GoC P E (AtAcq P E Fin) m g w → CS .acq n E.N m 0 g w
end

/-- Whoever works still stands, as that family sees it, ahead of its release. -/
def cl7 (D : Nat → WD) : Nat → WD := fun i => { D i with stage := min (D i).stage 7 }
/-- How the group's two cells hang on where everybody stands. -/
abbrev Md (j : Nat) (D : Nat → WD) (tag : Tag) (st sm : Int) : Prop := ConcN.Mode j (cl7 D) (toC tag) st sm

theorem cl7_upd (D : Nat → WD) (i s m d : Nat) : cl7 (upd D i ⟨s, m, d⟩) = upd (cl7 D) i ⟨min s 7, m, d⟩ := by
  funext a
  by_cases e : a = i
  · subst e; simp [cl7, upd_same]
  · simp [cl7, upd_ne _ _ e]
theorem Vc_cl7 (j : Nat) (D : Nat → WD) : Vc j (cl7 D) = Vc j D := sumTo_congr fun i _ => by
  have e : (cl7 D i).stage = min (D i).stage 7 := rfl
  simp only [cnt]
  by_cases h : 5 ≤ (D i).stage
  · rw [if_pos h, if_pos (by rw [e]; omega)]
  · rw [if_neg h, if_neg (by rw [e]; omega)]

theorem Md.retag {j : Nat} {D : Nat → WD} {tag tag' : Tag} {st sm : Int} (h : Md j D tag st sm) (e : tag' = tag ∨ (tag = .blk ∧ tag' = .w3)) : Md j D tag' st sm :=
  ConcN.Mode.retag h (by
    rcases e with rfl | ⟨rfl, rfl⟩
    · exact .inl rfl
    · exact .inr ⟨rfl, rfl⟩)
theorem Md.same {j i : Nat} {D : Nat → WD} {tag : Tag} {st sm : Int} (hm : Md j D tag st sm) (m' dd' : Nat) : Md j (upd D i ⟨(D i).stage, m', dd'⟩) tag st sm := by
  unfold Md
  rw [cl7_upd]
  exact ConcN.Mode.same hm m' dd'
/-- Among those that work nothing hangs on who does what. -/
theorem Md.works {j i : Nat} {D : Nat → WD} {tag : Tag} {st sm : Int} (hm : Md j D tag st sm) (h7 : 7 ≤ (D i).stage) {s' : Nat} (hs : 7 ≤ s') (m' dd' : Nat) : Md j (upd D i ⟨s', m', dd'⟩) tag st sm := by
  unfold Md
  rw [cl7_upd, show min s' 7 = (cl7 D i).stage by simp only [cl7]; omega]
  exact ConcN.Mode.same hm m' dd'
theorem Md.counted {j i : Nat} {D : Nat → WD} {tag : Tag} {st sm : Int} (hm : Md j D tag st sm) (hi : i < j) (h5 : 5 ≤ (D i).stage) {s' : Nat} (hs : s' = 6 ∨ s' = 5) (m' dd' : Nat) : Md j (upd D i ⟨s', m', dd'⟩) tag st sm := by
  unfold Md
  rw [cl7_upd, show min s' 7 = s' by omega]
  exact ConcN.Mode.counted hm hi (by simp only [cl7]; omega) hs m' dd'
theorem Md.not_fin {j i : Nat} {D : Nat → WD} {tag : Tag} {st sm : Int} (hm : Md j D tag st sm) (hi : i < j) (h : (D i).stage ≠ 1) : ¬ isFin (toC tag) := by
  intro hf
  have h' : (cl7 D i).stage ≠ 1 := by simp only [cl7]; omega
  unfold Md at hm
  generalize toC tag = c at hm hf
  cases hm with
  | opn h1 _ _ => cases c <;> first | exact h1 | exact hf
  | reg h1 _ _ => cases c <;> first | exact h1 | exact hf
  | last L h1 _ _ _ => cases c <;> first | exact h1 | exact hf
  | sema h2 => exact h' (h2 i hi)
  | fin _ h2 => exact h' (h2 i hi)

theorem phi_mono (n N : Nat) {v v' : Nat} (h : v' ≤ v) (tag : Tag) : phi n N v' tag ≤ phi n N v tag := by
  cases tag <;> simp only [phi] <;> omega
theorem phi_retag (n N v : Nat) {tag tag' : Tag} (e : tag' = tag ∨ (tag = .blk ∧ tag' = .w3)) : phi n N v tag' = phi n N v tag := by
  rcases e with rfl | ⟨rfl, rfl⟩ <;> rfl

section
variable [Payload] {P : Program} {E : Cfg}

/-! ### a worker's situation -/
variable {r s m d : Nat} {o : Option Nat} {g : Goroutine} {w w₁ : World}
theorem rw0_tr : ∀ a b c, RW0 E a b → RW0 E b c → RW0 E a c := fun _ _ _ h1 h2 => h1.trans h2

theorem WS.rely (F : E.Fit) (h : WS P E r s m d o g w) (hr : RP E w w₁) : WS P E r s m d o g w₁ := by
  cases h with
  | st hk h => exact .st hk (Goes.rely RP.tr h hr)
  | sel h => exact .sel (Goes.rely RP.tr h hr)
  | park hs h => exact .park hs fun w₂ h₂ => h w₂ (hr.trans h₂)
  | r0 h => exact .r0 (Goes.rely RP.tr h hr)
  | k1 h => exact .k1 (Goes.rely rw0_tr h (hr.rw0 F))
  | d1 h => exact .d1 (Goes.rely rw0_tr h (hr.rw0 F))
  | d2 h => exact .d2 (Goes.rely rw0_tr h (hr.rw0 F))
  | d3 h => exact .d3 (Goes.rely rw0_tr h (hr.rw0 F))
  | d4 h => exact .d4 (Goes.rely rw0_tr h (hr.rw0 F))
  | quit h => exact .quit h

omit [Payload] in
theorem AtSelOf.running {X : Goroutine → World → Prop} (h : AtSelOf X g w) : g.status = .running := by
  obtain ⟨g₂, o, rfl, hs, _⟩ := h; exact hs

theorem WS.status (h : WS P E r s m d o g w) : (s = 8 ∧ ∃ g₁, g₁.status = .running ∧ g = parked g₁ (selCases E) .select) ∨ (s = 1 ∧ (g.status = .running ∨ g.status = .finished)) ∨ (s ≠ 8 ∧ s ≠ 1 ∧ g.status = .running) := by
  cases h with
  | st _ h => exact .inr (.inr ⟨by omega, by omega, Goes.running (fun _ _ x => x.1) w (.refl w) h⟩)
  | sel h => exact .inr (.inr ⟨by omega, by omega, Goes.running (fun _ _ x => x.running) w (.refl w) h⟩)
  | park hs h => exact .inl ⟨rfl, _, hs, rfl⟩
  | r0 h => exact .inr (.inr ⟨by omega, by omega, Goes.running (fun _ _ x => x.1) w (.refl w) h⟩)
  | k1 h => exact .inr (.inr ⟨by omega, by omega, Goes.running (fun _ _ x => x.1) w (RW.refl w) h⟩)
  | d1 h => exact .inr (.inr ⟨by omega, by omega, Goes.running (fun _ _ x => x.1) w (RW.refl w) h⟩)
  | d2 h => exact .inr (.inr ⟨by omega, by omega, Goes.running (fun _ _ x => x.1) w (RW.refl w) h⟩)
  | d3 h => exact .inr (.inr ⟨by omega, by omega, Goes.running (fun _ _ x => x.1) w (RW.refl w) h⟩)
  | d4 h => exact .inr (.inr ⟨by omega, by omega, Goes.running (fun _ _ x => x.1) w (RW.refl w) h⟩)
  | quit h => exact .inr (.inl ⟨rfl, h.status⟩)

/-- Both channels are open, or it is not parked: nobody lets it try again. -/
theorem WS.woken {w' : World} (h : WS P E r s m d o g w) (hop : s = 8 → (∃ x y, w'.heap[E.Cp]? = some (.chan 0 #[] false x y false)) ∧ (∃ x y, w'.heap[E.Cd]? = some (.chan 0 #[] false x y false))) (a a' : Goroutine) : woken P a a' w' g = g := by
  unfold Go.Conc.woken
  split
  · rcases h.status with ⟨h8, g₁, hs, rfl⟩ | ⟨_, h1⟩ | ⟨_, _, h1⟩
    · obtain ⟨⟨x, y, hp⟩, ⟨x', y', hd⟩⟩ := hop h8
      refine again_all_open fun cc hcc => ?_
      simp only [selCases, List.mem_toArray, List.mem_cons, List.not_mem_nil, or_false] at hcc
      rcases hcc with rfl | rfl
      · exact ⟨_, _, _, _, _, _, _, rfl, hp⟩
      · exact ⟨_, _, _, _, _, _, _, rfl, hd⟩
    · exact again_running _ h1
    · exact again_running _ (.inl h1)
  · rfl
end
end Pool
end Go.Proofs.Ytjehmdhcccmihaa
/-
  A send that comes to a channel at which several goroutines are parked, each at the same row of cases: it meets one of them, whichever the tape picks.
-/
namespace Go.Proofs.Ytjehmdhcccmihaa
open Go.Conc
namespace Pool

/-- One of several is picked: which, and how the world's count of draws stands then. -/
theorem pick_some (P : Program) (w : World) (ps : List (Nat × Nat)) (hne : ps ≠ []) (e : CommCase) :
    ∃ (b d : Nat) (p : Nat × Nat), ps[b]? = some p ∧ (do let a ← choose (.select 1); let (k, c, ws) := [((0 : Nat), e, ps.map fun (h, k) => Way.partner h k)].getD a (0, default, []); let b ← choose (.extern "which waiting goroutine is the partner" ws.length); pure (k, c, ws.getD b .closed) : Sem (Nat × CommCase × Way)).run P w =
      .ok (0, e, .partner p.1 p.2) (w.at d) := by
  have hlen : 0 < ps.length := List.length_pos_iff.2 hne
  by_cases hf : ps.length = 1
  · obtain ⟨p, rfl⟩ : ∃ p, ps = [p] := by
      match ps, hf with
      | [p], _ => exact ⟨p, rfl⟩
    refine ⟨0, w.drawn, p, rfl, ?_⟩
    simp [choose, Sem.run, Question.forced, bind, Sem.bind, pure, World.at]
  · obtain ⟨b, hb⟩ : ∃ b, b = (Question.extern "which waiting goroutine is the partner" ps.length).cut (w.tape w.drawn (.extern "which waiting goroutine is the partner" ps.length)) := ⟨_, rfl⟩
    have hlt : b < ps.length := by
      rw [hb]
      simp only [Question.cut]
      rw [if_neg (by omega)]
      exact Nat.mod_lt _ hlen
    refine ⟨b, w.drawn + 1, ps[b], List.getElem?_eq_getElem hlt, ?_⟩
    simp [choose, Sem.run, Question.forced, bind, Sem.bind, pure, World.at, hf, ← hb, hlt]

section
variable {P : Program} {gs : Array Goroutine} {w w₁ : World} {sl : Option (Nat × Nat)} {i : Nat} {g g₂ : Goroutine} {es : Array Event} {c cap s r : Nat} {buf : Array Value} {tm : Bool} {v z zj : Value} {blocking : Bool} {shape sh : CommShape} {cs : Array CommCase}

theorem send_meets (hi : gs[i]? = some g) (h : stepG P (i == 0) g w = .comm g₂ #[scase c v z] blocking shape w₁ es) (hc : w₁.heap[c]? = some (.chan cap buf false s r tm))
    (hne : partners (gs.setIfInBounds i ph) c false ≠ []) (h0 : cs[0]? = some (rcase c zj))
    (hall : ∀ j k, (j, k) ∈ partners (gs.setIfInBounds i ph) c false → k = 0 ∧ j ≠ i ∧ ∃ gj, gs[j]? = some (parked gj cs sh)) :
    ∃ (j : Nat) (gj : Goroutine) (d : Nat), j ≠ i ∧ gs[j]? = some (parked gj cs sh) ∧
      runT P (crowd gs w sl) i = (.next (crowd ((gs.setIfInBounds j (gj.finishComm P cs sh 0 v true)).setIfInBounds i (g₂.finishComm P #[scase c v z] shape 0 undef false)) ((w₁.at d).setChan c cap buf false (s + 1) (r + 1) tm) sl),
        MemOp.ofEvents i g.frame.fn g.frame.place es ++ #[{ g := i, fn := g₂.frame.fn, pos := g₂.frame.place, act := .send c s }, { g := j, fn := gj.frame.fn, pos := gj.frame.place, act := .recv c r cap },
          { g := i, fn := g₂.frame.fn, pos := g₂.frame.place, act := .sendDone c s }, { g := j, fn := gj.frame.fn, pos := gj.frame.place, act := .recvDone c r }]) := by
  generalize hps : partners (gs.setIfInBounds i ph) c false = ps at hne hall
  obtain ⟨b, d, ⟨j, k⟩, hb, hpk⟩ := pick_some P w₁ ps hne (scase c v z)
  obtain ⟨rfl, hij, gj, hj⟩ := hall j k (List.mem_of_getElem? hb)
  refine ⟨j, gj, d, hij, hj, ?_⟩
  rw [runT_crowd_comm hi h]
  have hj' := stand_get (i := i) hij hj
  have hfp := finishPartner_at P (gs.setIfInBounds i ph) hj' (cs := cs) (sh := sh) rfl 0 v
  have hgd : (gs.setIfInBounds i ph).getD j default = parked gj cs sh := by rw [Array.getD_eq_getD_getElem?, hj']; rfl
  have hw : ways w₁ (gs.setIfInBounds i ph) (scase c v z) = ps.map fun (h, k) => Way.partner h k := by
    simp only [ways, scase, hc, hps]
    cases ps with
    | nil => exact absurd rfl hne
    | cons p ps => simp
  have hwne : (ps.map fun (h, k) => Way.partner h k).isEmpty = false := by cases ps with
    | nil => exact absurd rfl hne
    | cons p ps => rfl
  have hr : (((#[scase c v z] : Array CommCase).zipIdx.toList.map fun (c, k) => (k, c, ways w₁ (gs.setIfInBounds i ph) c)).filter fun (_, _, ws) => !ws.isEmpty) = [((0 : Nat), scase c v z, ps.map fun (h, k) => Way.partner h k)] := by
    simp [hw, hwne]
  have hill : (#[scase c v z] : Array CommCase).any (illMade w₁) = false := by simp [made_send v z hc]
  unfold communicate
  simp only [hr, List.isEmpty_cons, Bool.false_eq_true, if_false, List.length_singleton, hpk]
  rw [if_neg (by rw [Bool.not_eq_true]; exact hill)]
  simp [scase, World.at, hc, World.setChan, crowd, hfp, hgd, set_stand2, h0, rcase, parked]
  rfl
end
end Pool
end Go.Proofs.Ytjehmdhcccmihaa
/-
  A pool of workers and its caller: what holds of the machine at every moment; whatever step of a worker's, or of the caller's, keeps it.
-/
namespace Go.Proofs.Ytjehmdhcccmihaa
open Go.Conc Go.ConcN
open Go.ConcR (KK wgBlock WgAt stA smA rd wr mk Payload Aside2 DC0 Bk g_of_ofEvents again_blocked)
namespace Pool

/-- Each place that was sent is in somebody's hand, or written. -/
def Wrote (E : Cfg) (K j : Nat) (hand : Nat → Option Nat) (w : World) : Prop :=
  ∃ arr, w.heap[E.C]? = some (.cells arr E.ety) ∧ arr.size = E.N ∧ ∀ k, k < K → (∃ i, i < j ∧ hand i = some k) ∨ arr[k]? = some (E.val k)

section
variable {E : Cfg} {K j : Nat} {hand : Nat → Option Nat} {w w' : World}
theorem Wrote.ok (h : Wrote E K j hand w) : MadeOk E w := let ⟨arr, h1, h2, _⟩ := h; ⟨arr, h1, h2⟩
theorem Wrote.of_block (h : Wrote E K j hand w) (e : w'.heap[E.C]? = w.heap[E.C]?) : Wrote E K j hand w' := let ⟨arr, h1, h2, h3⟩ := h; ⟨arr, e.trans h1, h2, h3⟩
theorem upd_self {α : Type} (f : Nat → α) (i : Nat) : upd f i (f i) = f := by
  funext a
  by_cases e : a = i
  · subst e; exact upd_same f a _
  · exact upd_ne f _ e
theorem Wrote.still (h : Wrote E K j hand w) (e : w'.heap[E.C]? = w.heap[E.C]?) (i : Nat) {o : Option Nat} (ho : hand i = o) : Wrote E K j (upd hand i o) w' := by
  subst ho
  rw [upd_self]
  exact h.of_block e
theorem Wrote.store (h : Wrote E K j hand w) {i k : Nat} (hk : hand i = some k) (hN : k < E.N) : Wrote E K j (upd hand i none) (w.setCell ⟨E.C, k, none⟩ (E.val k)) := by
  obtain ⟨arr, h1, h2, h3⟩ := h
  obtain ⟨arr', h1', h2', h4⟩ := MadeOk.set ⟨arr, h1, h2⟩ k (E.val k)
  rw [h1] at h1'
  obtain rfl : arr = arr' := by simpa using h1'
  refine ⟨_, h4, by simpa using h2, fun x hx => ?_⟩
  by_cases e : x = k
  · subst e
    exact .inr (by simp [h2, hN])
  · rcases h3 x hx with ⟨i', hi', hh⟩ | hw
    · refine .inl ⟨i', hi', ?_⟩
      have : i' ≠ i := by rintro rfl; rw [hk] at hh; exact e (Option.some.inj hh).symm
      rw [upd_ne hand none this]; exact hh
    · exact .inr (by rw [Array.getElem?_setIfInBounds_ne (Ne.symm e)]; exact hw)
theorem Wrote.give (h : Wrote E K j hand w) (e : w'.heap[E.C]? = w.heap[E.C]?) {i : Nat} (hi : i < j) (hn : hand i = none) : Wrote E (K + 1) j (upd hand i (some K)) w' := by
  obtain ⟨arr, h1, h2, h3⟩ := h
  refine ⟨arr, e.trans h1, h2, fun x hx => ?_⟩
  by_cases e : x = K
  · subst e
    exact .inl ⟨i, hi, upd_same hand i _⟩
  · rcases h3 x (by omega) with ⟨i', hi', hh⟩ | hw
    · refine .inl ⟨i', hi', ?_⟩
      have : i' ≠ i := by rintro rfl; rw [hn] at hh; cases hh
      rw [upd_ne hand _ this]; exact hh
    · exact .inr hw
theorem Wrote.more (h : Wrote E K j hand w) {o : Option Nat} : Wrote E K (j + 1) (upd hand j o) w := by
  obtain ⟨arr, h1, h2, h3⟩ := h
  refine ⟨arr, h1, h2, fun x hx => ?_⟩
  rcases h3 x hx with ⟨i', hi', hh⟩ | hw
  · exact .inl ⟨i', by omega, by rw [upd_ne hand _ (by omega)]; exact hh⟩
  · exact .inr hw
end

def OpenAt (c : Nat) (w : World) : Prop := ∃ s r, w.heap[c]? = some (.chan 0 #[] false s r false)
def EndAt (c : Nat) (cl : Bool) (w : World) : Prop := ∃ s r, w.heap[c]? = some (.chan 0 #[] cl s r false)

section
variable [Payload] (P : Program) (E : Cfg)
/-- j goroutines beside the caller, K places sent: what holds of all but the caller. -/
structure Co (gs : Array Goroutine) (w : World) (T : Trace) (j K : Nat) (D : Nat → WD) (hand : Nat → Option Nat) (own : Nat → Nat) (d0 : Nat) : Prop where
  size : gs.size = j + 1
  wk : ∀ i, i < j → ∃ g r, gs[i + 1]? = some g ∧ E.N ≤ K + r ∧ WS P E r (D i).stage (D i).fuel (D i).deaf (hand i) g w
  old : ∀ i, i < j → i + 1 < E.c0 → (D i).stage = 1
  pt : PT E.Shun E.Wg E.C E.c0 E.Bd E.n0 own K j T
  norel : NoRelease (stA E.Wg) T
  deaf0 : Deaf T 0 = d0
  deafW : ∀ i, i < j → Deaf T (i + 1) = (D i).deaf
  above : ∀ g, j < g → Deaf T g = 0
  rel : ∀ i, i < j → E.c0 ≤ i + 1 → (D i).stage ≤ 6 → ∃ r, RelBy (stA E.Wg) T (i + 1) r
  wrote : Wrote E K j hand w
  hnd : ∀ i, i < j → ∀ k, hand i = some k → k < K ∧ own k = i + 1
  chp : OpenAt E.Cp w

/-- The caller's place and the workers'. -/
structure Ph (tag : Tag) (j : Nat) (D : Nat → WD) : Prop where
  pre : ¬ after tag → ∀ i, i < j → E.c0 ≤ i + 1 → 8 ≤ (D i).stage
  post : after tag → ∀ i, i < j → (D i).stage ≠ 8
  blk : ∀ r, tag = .sblk r → ∀ i, i < j → (D i).stage ≠ 8

open Classical in
/-- What holds of the machine. -/
def Inv (n : Nat) (Fin Anch : Goroutine → World → Prop) (μ : Nat × Nat) (m : Machine) (T : Trace) : Prop :=
  ∃ (gs : Array Goroutine) (w : World) (sl : Option (Nat × Nat)) (j jn K : Nat) (D : Nat → WD) (hand : Nat → Option Nat) (own : Nat → Nat) (tag : Tag) (f0 d0 : Nat) (a : Goroutine) (st sm : Int),
    m = crowd gs w sl ∧ gs[0]? = some a ∧ CS P E n Fin Anch tag jn K f0 d0 a w ∧ j + 1 = E.c0 + jn ∧ Co P E gs w T j K D hand own d0 ∧ WgAt E.ty E.Wg w st sm ∧ Md j D tag st sm ∧ Ph E tag j D ∧
    EndAt E.Cd (decide (after tag)) w ∧ μ = (phi (E.c0 + n) E.N (Vc j D) tag + Ssum j D, f0 + 2 * Fsum j D)
end

section
variable [Payload] {P : Program} {E : Cfg} {n : Nat} {Fin Anch : Goroutine → World → Prop} {tag : Tag} {jn j K f d0 : Nat} {a : Goroutine} {w w' : World}

theorem CS.rely (h : CS P E n Fin Anch tag jn K f d0 a w) (hr : RP E w w') : CS P E n Fin Anch tag jn K f d0 a w' := by
  cases h with
  | skd hn h => exact .skd hn (Goes.rely RP.tr h hr)
  | sa1 hn h => exact .sa1 hn (Goes.rely RP.tr h hr)
  | ske hn h => exact .ske hn (Goes.rely RP.tr h hr)
  | sgo hn h => exact .sgo hn (Goes.rely RP.tr h hr)
  | snd hn h => exact .snd hn (Goes.rely RP.tr h hr)
  | sblk hn h => exact .sblk hn fun w₂ h₂ => h w₂ (hr.trans h₂)
  | cl h => exact .cl (Goes.rely RP.tr h hr)
  | kd h => exact .kd (Goes.rely RP.tr h hr)
  | anch h => exact .anch (Goes.rely RP.tr h hr)
  | w1 h => exact .w1 (Goes.rely RP.tr h hr)
  | w2 h => exact .w2 (Goes.rely RP.tr h hr)
  | w3 h => exact .w3 (Goes.rely RP.tr h hr)
  | blk h => exact .blk fun w₂ h₂ => h w₂ (hr.trans h₂)
  | w4 h => exact .w4 (Goes.rely RP.tr h hr)
  | ke h => exact .ke (Goes.rely RP.tr h hr)
  | acq h => exact .acq (Goes.rely RP.tr h hr)

/-- It runs, or it is parked at a send, or it is blocked at the semaphore. -/
theorem CS.status (hAr : ∀ g w, Anch g w → g.status = .running) (h : CS P E n Fin Anch tag jn K f d0 a w) :
    (a.status = .running ∧ tag ≠ .blk ∧ ∀ r, tag ≠ .sblk r) ∨ (∃ r g, tag = .sblk r ∧ a = parked g (sendCases E (E.N - (r + 1))) .send) ∨ (a.status = .blocked ∧ tag = .blk) := by
  cases h with
  | skd _ h => exact .inl ⟨Goes.running (fun _ _ x => x.1) w (.refl w) h, by simp, by simp⟩
  | sa1 _ h => exact .inl ⟨Goes.running (fun _ _ x => x.1) w (.refl w) h, by simp, by simp⟩
  | ske _ h => exact .inl ⟨Goes.running (fun _ _ x => x.1) w (.refl w) h, by simp, by simp⟩
  | sgo _ h => exact .inl ⟨Goes.running (fun _ _ x => x.1) w (.refl w) h, by simp, by simp⟩
  | snd _ h => exact .inl ⟨Goes.running (fun _ _ x => x.1) w (.refl w) h, by simp, by simp⟩
  | sblk _ h => exact .inr (.inl ⟨_, _, rfl, rfl⟩)
  | cl h => exact .inl ⟨Goes.running (fun _ _ x => x.1) w (.refl w) h, by simp, by simp⟩
  | kd h => exact .inl ⟨Goes.running (fun _ _ x => x.1) w (.refl w) h, by simp, by simp⟩
  | anch h => exact .inl ⟨Goes.running hAr w (.refl w) h, by simp, by simp⟩
  | w1 h => exact .inl ⟨Goes.running (fun _ _ x => x.1) w (.refl w) h, by simp, by simp⟩
  | w2 h => exact .inl ⟨Goes.running (fun _ _ x => x.1) w (.refl w) h, by simp, by simp⟩
  | w3 h => exact .inl ⟨Goes.running (fun _ _ x => x.1) w (.refl w) h, by simp, by simp⟩
  | blk h => exact .inr (.inr ⟨rfl, rfl⟩)
  | w4 h => exact .inl ⟨Goes.running (fun _ _ x => x.1) w (.refl w) h, by simp, by simp⟩
  | ke h => exact .inl ⟨Goes.running (fun _ _ x => x.1) w (.refl w) h, by simp, by simp⟩
  | acq h => exact .inl ⟨Goes.running (fun _ _ x => x.1) w (.refl w) h, by simp, by simp⟩

omit [Payload] in
theorem again_send (g : Goroutine) (k : Nat) (h : OpenAt E.Cp w') : (parked g (sendCases E k) .send).again w' = parked g (sendCases E k) .send := by
  obtain ⟨s, r, hc⟩ := h
  simp [Goroutine.again, parked, sendCases, scase, hc]

/-- UNDER ANOTHER's STEP. -/
theorem CS.wokenBy (hAr : ∀ g w, Anch g w → g.status = .running) (h : CS P E n Fin Anch tag jn K f d0 a w) (hr : RP E w w') (hp : OpenAt E.Cp w') (g g' : Goroutine) :
    ∃ tag' f', CS P E n Fin Anch tag' jn K f' d0 (woken P g g' w' a) w' ∧ f' ≤ f + 1 ∧ (tag' = tag ∨ (tag = .blk ∧ tag' = .w3)) ∧ (mayWake P g = true → g'.status = .running → tag' ≠ .blk) := by
  have h' := h.rely hr
  unfold Go.Conc.woken
  split
  · rcases h'.status hAr with ⟨hs, hne, _⟩ | ⟨r, g₁, rfl, rfl⟩ | ⟨_, rfl⟩
    · exact ⟨tag, f, by rw [again_running _ (.inl hs)]; exact h', by omega, .inl rfl, fun _ _ => hne⟩
    · exact ⟨_, f, by rw [again_send g₁ _ hp]; exact h', by omega, .inl rfl, fun _ _ => by simp⟩
    · cases h' with
      | blk hb =>
        rename_i g0
        have h3 := hb w' (.refl w')
        exact ⟨.w3, 0 + 1, by rw [again_blocked h3.1 h3.2.1]; exact .w3 (Goes.stop hb), by omega, .inr ⟨rfl, rfl⟩, fun _ _ => by simp⟩
  · rename_i hc
    exact ⟨tag, f, h', by omega, .inl rfl, fun h1 h2 => absurd (by simp [h1, h2]) hc⟩

omit [Payload] in
theorem after_retag {tag tag' : Tag} (e : tag' = tag ∨ (tag = .blk ∧ tag' = .w3)) : after tag' ↔ after tag := by
  rcases e with rfl | ⟨rfl, rfl⟩ <;> exact Iff.rfl

omit [Payload] in
theorem Ph.set {D : Nat → WD} (h : Ph E tag j D) {tag' : Tag} (e : tag' = tag ∨ (tag = .blk ∧ tag' = .w3)) (i : Nat) {s m d : Nat} (h8 : s ≠ 8) (hp : ¬ after tag → E.c0 ≤ i + 1 → 8 ≤ s) : Ph E tag' j (upd D i ⟨s, m, d⟩) := by
  refine ⟨fun ha i' hi' hc => ?_, fun ha i' hi' => ?_, fun r hr i' hi' => ?_⟩
  · rw [after_retag e] at ha
    by_cases ei : i' = i
    · subst ei; rw [upd_same]; exact hp ha hc
    · rw [upd_ne D _ ei]; exact h.pre ha i' hi' hc
  · rw [after_retag e] at ha
    by_cases ei : i' = i
    · subst ei; rw [upd_same]; exact h8
    · rw [upd_ne D _ ei]; exact h.post ha i' hi'
  · by_cases ei : i' = i
    · subst ei; rw [upd_same]; exact h8
    · rw [upd_ne D _ ei]
      rcases e with e | ⟨_, e⟩
      · exact h.blk r (e ▸ hr) i' hi'
      · rw [e] at hr; cases hr

open Classical in
/-- WHATEVER STEP OF WORKER NUMBER i THAT IS NO COMMUNICATION. -/
theorem workStep (F : E.Fit) (hAr : ∀ g w, Anch g w → g.status = .running) {gs : Array Goroutine} {sl : Option (Nat × Nat)} {T : Trace} {D : Nat → WD} {hand : Nat → Option Nat} {own : Nat → Nat}
    (ha : gs[0]? = some a) (hcs : CS P E n Fin Anch tag jn K f d0 a w) (hj : j + 1 = E.c0 + jn) (hco : Co P E gs w T j K D hand own d0) (hph : Ph E tag j D) (hend : EndAt E.Cd (decide (after tag)) w)
    {i : Nat} (hi : i < j) {g g' : Goroutine} {es : Array Event} {r s' m' dd' : Nat} {o' : Option Nat} {st' sm' : Int} (hg : gs[i + 1]? = some g) (hgo : stepG P false g w = .go g' w' es)
    (hrp : RP E w w') (hKr : E.N ≤ K + r) (hws : WS P E r s' m' dd' o' g' w')
    (hop : ∀ op ∈ MemOp.ofEvents (i + 1) g.frame.fn g.frame.place es, OkP E.Shun E.Wg E.C E.Bd own K (i + 1) op) (hnew : E.c0 ≤ i + 1 ∨ ∀ op ∈ MemOp.ofEvents (i + 1) g.frame.fn g.frame.place es, op.act.touch? = none)
    (hnr : ∀ e ∈ es, e.loc ≠ .mark (.release (stA E.Wg))) (hdeaf : deafBehind (D i).deaf es = dd')
    (hrel : E.c0 ≤ i + 1 → s' ≤ 6 → ∃ r, RelBy (stA E.Wg) (T ++ MemOp.ofEvents (i + 1) g.frame.fn g.frame.place es) (i + 1) r) (hold : i + 1 < E.c0 → s' = 1)
    (hwr : Wrote E K j (upd hand i o') w') (hhnd : ∀ k, o' = some k → k < K ∧ own k = i + 1) (hchp : OpenAt E.Cp w') (hchd : w'.heap[E.Cd]? = w.heap[E.Cd]?)
    (hwg : WgAt E.ty E.Wg w' st' sm')
    (hmode : ∀ tag', (tag' = tag ∨ (tag = .blk ∧ tag' = .w3)) → (mayWake P g = true → g'.status = .running → tag' ≠ .blk) → Md j (upd D i ⟨s', m', dd'⟩) tag' st' sm')
    (h8 : s' ≠ 8) (hpre : ¬ after tag → E.c0 ≤ i + 1 → 8 ≤ s')
    (hlt : (s' < (D i).stage ∧ cnt ⟨s', m', dd'⟩ ≤ cnt (D i)) ∨ (s' = (D i).stage ∧ m' + 1 = (D i).fuel)) :
    ∃ m₁ ops μ', runT P (crowd gs w sl) (i + 1) = (.next m₁, ops) ∧ Lt2 μ' (phi (E.c0 + n) E.N (Vc j D) tag + Ssum j D, f + 2 * Fsum j D) ∧ Inv P E n Fin Anch μ' m₁ (T ++ ops) := by
  obtain ⟨tag', f', hcs', hf', htag, hwk⟩ := hcs.wokenBy hAr hrp hchp g g'
  have hrun := runT_crowd_go (P := P) (sl := sl) (i := i + 1) hg (by simpa using hgo)
  have e1 := sumTo_upd D (⟨s', m', dd'⟩ : WD) cnt hi
  have e2 := sumTo_upd D (⟨s', m', dd'⟩ : WD) WD.stage hi
  have e3 := sumTo_upd D (⟨s', m', dd'⟩ : WD) WD.fuel hi
  have hend' : EndAt E.Cd (decide (after tag)) w' := let ⟨x, y, h⟩ := hend; ⟨x, y, hchd.trans h⟩
  have hat : decide (after tag') = decide (after tag) := by simp only [after_retag htag]
  refine ⟨_, _, (phi (E.c0 + n) E.N (Vc j (upd D i ⟨s', m', dd'⟩)) tag' + Ssum j (upd D i ⟨s', m', dd'⟩), f' + 2 * Fsum j (upd D i ⟨s', m', dd'⟩)), hrun, ?_,
    _, w', sl, j, jn, K, upd D i ⟨s', m', dd'⟩, upd hand i o', own, tag', f', d0, woken P g g' w' a, st', sm', rfl, by rw [get_map_set _ _ _ _ (by omega), ha]; rfl, hcs', hj, ?_, hwg, hmode tag' htag hwk, hph.set htag i h8 hpre, by rw [hat]; exact hend', rfl⟩
  · rw [phi_retag _ _ _ htag]
    simp only [Vc, Ssum, Fsum] at *
    rcases hlt with ⟨h1, h2⟩ | ⟨h1, h2⟩
    · refine Prod.Lex.left _ _ ?_
      have := phi_mono (E.c0 + n) E.N (v' := sumTo j fun a => cnt (upd D i ⟨s', m', dd'⟩ a)) (v := sumTo j fun a => cnt (D a)) (by omega) tag
      omega
    · have ec : cnt (⟨s', m', dd'⟩ : WD) = cnt (D i) := by simp only [cnt, h1]
      have ev : (sumTo j fun a => cnt (upd D i ⟨s', m', dd'⟩ a)) = sumTo j fun a => cnt (D a) := by omega
      have es' : (sumTo j fun a => (upd D i ⟨s', m', dd'⟩ a).stage) = sumTo j fun a => (D a).stage := by omega
      rw [ev, es']
      refine Prod.Lex.right _ ?_
      omega
  · refine ⟨by simp [hco.size], fun i' hi' => ?_, fun i' hi' hc => ?_, hco.pt.app F.CW hop (hnew.imp (fun h => .inr ⟨h, by omega⟩) id), hco.norel.app (norel_of hnr), by rw [Deaf_other T (by omega) _ g_of_ofEvents, hco.deaf0], fun i' hi' => ?_, fun g₁ hg₁ => by rw [Deaf_other T (by omega) _ g_of_ofEvents, hco.above g₁ hg₁],
      fun i' hi' hc hst => ?_, hwr, fun i' hi' k hk => ?_, hchp⟩
    · by_cases e : i' = i
      · subst e
        exact ⟨g', r, get_map_set_same _ _ _ (by rw [hco.size]; omega), hKr, by rw [upd_same, upd_same]; exact hws⟩
      · obtain ⟨x, rx, hx, hkx, hsx⟩ := hco.wk i' hi'
        refine ⟨x, rx, ?_, hkx, by rw [upd_ne D _ e, upd_ne hand _ e]; exact hsx.rely F hrp⟩
        rw [get_map_set _ _ _ _ (by omega), hx, Option.map_some, hsx.woken (fun h8' => ?_)]
        refine ⟨hchp, ?_⟩
        have hna : ¬ after tag := fun ha' => hph.post ha' i' hi' h8'
        obtain ⟨x1, x2, hx3⟩ := hend'
        exact ⟨x1, x2, by rw [hx3]; simp [hna]⟩
    · by_cases e : i' = i
      · subst e; rw [upd_same]; exact hold hc
      · rw [upd_ne D _ e]; exact hco.old i' hi' hc
    · by_cases e : i' = i
      · subst e; rw [Deaf_own, hco.deafW i' hi', upd_same]; exact hdeaf
      · rw [Deaf_other T (by omega) _ g_of_ofEvents, hco.deafW i' hi', upd_ne D _ e]
    · by_cases e : i' = i
      · subst e; rw [upd_same] at hst; exact hrel hc hst
      · rw [upd_ne D _ e] at hst
        obtain ⟨x, hx⟩ := hco.rel i' hi' hc hst
        exact ⟨x, hx.appOther g_of_ofEvents (by omega)⟩
    · by_cases e : i' = i
      · subst e; rw [upd_same] at hk; exact hhnd k hk
      · rw [upd_ne hand _ e] at hk; exact hco.hnd i' hi' k hk
end
end Pool
end Go.Proofs.Ytjehmdhcccmihaa
/-
  A pool of workers and its caller: the pieces of a worker's step: what may be listed; who offers what; a communication.
-/
namespace Go.Proofs.Ytjehmdhcccmihaa
open Go.Conc Go.ConcN
open Go.ConcR (KK wgBlock WgAt stA smA rd wr mk Payload Aside2 DC0 Bk g_of_ofEvents ofEvent_loc_mark ofEvent_cell)
namespace Pool

section
variable {E : Cfg} {own : Nat → Nat} {K g : Nat} {fn : FuncId} {pos : String} {es : Array Event}

theorem mem_ops {op : MemOp} (h : op ∈ MemOp.ofEvents g fn pos es) : ∃ e ∈ es, op = { g, fn, pos, act := .ofEvent e } := by
  rw [ofEvents_eq] at h
  obtain ⟨e, he, rfl⟩ := Array.mem_map.1 h
  exact ⟨e, he, rfl⟩

theorem okP_of_ev {main : Bool} (hm : main = true → g = 0) (h : ∀ e ∈ es, EvOk E main e) : ∀ op ∈ MemOp.ofEvents g fn pos es, OkP E.Shun E.Wg E.C E.Bd own K g op := by
  intro op hop
  obtain ⟨e, he, rfl⟩ := mem_ops hop
  obtain ⟨h1, h2, _⟩ := h e he
  refine ⟨rfl, h1, fun x hx => ?_⟩
  rcases h2 x hx with ⟨a, b, c⟩ | hr
  · exact .inl ⟨a, b, fun hs => hm (c hs)⟩
  · exact .inr (.inr (.inl hr))

/-- The library's bookkeeping. -/
theorem okP_of_Bk (hW : E.Wg < E.Bd) (h : ∀ e ∈ es, Bk E.Wg e) : ∀ op ∈ MemOp.ofEvents g fn pos es, OkP E.Shun E.Wg E.C E.Bd own K g op := by
  intro op hop
  obtain ⟨e, he, rfl⟩ := mem_ops hop
  rcases h e he with h1 | h1 | ⟨a, wr, rfl, ha⟩
  · exact ⟨rfl, by rw [ofEvent_loc_mark h1]; trivial, fun x hx => by simp only [ofEvent_loc_mark h1] at hx; cases hx⟩
  · exact ⟨rfl, by rw [ofEvent_loc_mark h1]; trivial, fun x hx => by simp only [ofEvent_loc_mark h1] at hx; cases hx⟩
  · refine ⟨rfl, (by show a.block < E.Bd; omega), fun x hx => ?_⟩
    simp only [ofEvent_cell, MemAct.touch?, Option.some.injEq] at hx
    subst hx
    exact .inl ⟨⟨a, rfl, ha⟩, by simp, by simp⟩
theorem okP_mark {m : Mark} (hl : (MemAct.mark m).low E.Bd) (ht : (MemAct.mark m).touch? = none) : ∀ op ∈ MemOp.ofEvents g fn pos #[mk m], OkP E.Shun E.Wg E.C E.Bd own K g op := by
  intro op hop
  obtain ⟨e, he, rfl⟩ := mem_ops hop
  obtain rfl : e = mk m := by simpa using he
  have e1 : MemAct.ofEvent (mk m) = .mark m := ofEvent_loc_mark rfl
  exact ⟨rfl, by rw [e1]; exact hl, fun x hx => by simp only [e1, ht] at hx; cases hx⟩
theorem okP_store {k : Nat} (hC : E.C < E.Bd) (hk : k < K) (ho : own k = g) : ∀ op ∈ MemOp.ofEvents g fn pos #[⟨.cell ⟨E.C, k, none⟩, true, false⟩], OkP E.Shun E.Wg E.C E.Bd own K g op := by
  intro op hop
  obtain ⟨e, he, rfl⟩ := mem_ops hop
  obtain rfl : e = ⟨.cell ⟨E.C, k, none⟩, true, false⟩ := by simpa using he
  refine ⟨rfl, hC, fun x hx => ?_⟩
  simp only [ofEvent_cell, MemAct.touch?, Option.some.injEq] at hx
  subst hx
  exact .inr (.inl ⟨k, hk, rfl, ho, rfl⟩)
theorem ev_quiet {main : Bool} (h : ∀ e ∈ es, EvOk E main e) (d : Nat) : deafBehind d es = d := deafBehind_still (fun e he => ⟨(h e he).2.2.1, (h e he).2.2.2.1⟩) d
end

section
variable [Payload] {P : Program} {E : Cfg} {n : Nat} {Fin Anch : Goroutine → World → Prop} {tag : Tag} {jn j K f d0 : Nat} {a : Goroutine} {w w' : World}
  {gs gs' : Array Goroutine} {T u : Trace} {D : Nat → WD} {hand : Nat → Option Nat} {own own' : Nat → Nat}

theorem CS.le (h : CS P E n Fin Anch tag jn K f d0 a w) : jn ≤ n ∧ jn + pend (toC tag) ≤ n := by
  cases h <;> simp only [toC, pend] <;> (try simp) <;> omega
theorem CS.all (h : CS P E n Fin Anch tag jn K f d0 a w) (ha : after tag) : jn = n ∧ K = E.N := by
  cases h <;> first | exact ha.elim | exact ⟨rfl, rfl⟩

/-- No worker offers a send. -/
theorem WS.noSend {r s m d : Nat} {o : Option Nat} {g : Goroutine} (h : WS P E r s m d o g w) (c : Nat) : offersAt g c true = [] := by
  rcases h.status with ⟨_, g₁, _, rfl⟩ | ⟨_, hs | hs⟩ | ⟨_, _, hs⟩
  · refine offersAt_parked_sends (fun cc hcc => ?_) c
    simp only [selCases, List.mem_toArray, List.mem_cons, List.not_mem_nil, or_false] at hcc
    rcases hcc with rfl | rfl <;> rfl
  · exact offersAt_of_not_blocked (by rw [hs]; decide) c true
  · exact offersAt_of_not_blocked (by rw [hs]; decide) c true
  · exact offersAt_of_not_blocked (by rw [hs]; decide) c true
/-- .. and if it is not parked, nothing. -/
theorem WS.noOffer {r s m d : Nat} {o : Option Nat} {g : Goroutine} (h : WS P E r s m d o g w) (h8 : s ≠ 8) (c : Nat) (b : Bool) : offersAt g c b = [] := by
  rcases h.status with ⟨h8', _⟩ | ⟨_, hs | hs⟩ | ⟨_, _, hs⟩
  · exact absurd h8' h8
  · exact offersAt_of_not_blocked (by rw [hs]; decide) c b
  · exact offersAt_of_not_blocked (by rw [hs]; decide) c b
  · exact offersAt_of_not_blocked (by rw [hs]; decide) c b
/-- The caller offers nothing but a send. -/
theorem CS.noOffer (hAr : ∀ g w, Anch g w → g.status = .running) (h : CS P E n Fin Anch tag jn K f d0 a w) (hs : ∀ r, tag ≠ .sblk r) (c : Nat) (b : Bool) : offersAt a c b = [] := by
  rcases h.status hAr with ⟨hr, _⟩ | ⟨r, _, e, _⟩ | ⟨_, e⟩
  · exact offersAt_of_not_blocked (by rw [hr]; decide) c b
  · exact absurd e (hs r)
  · subst e
    cases h with
    | blk hb =>
      have h3 := hb w (.refl w)
      simp [offersAt, h3.2.1]
theorem CS.noRecv (hAr : ∀ g w, Anch g w → g.status = .running) (h : CS P E n Fin Anch tag jn K f d0 a w) (c : Nat) : offersAt a c false = [] := by
  by_cases hs : ∀ r, tag ≠ .sblk r
  · exact h.noOffer hAr hs c false
  · rcases h.status hAr with ⟨_, _, hne⟩ | ⟨r, g, _, rfl⟩ | ⟨_, e⟩
    · exact absurd hne hs
    · exact offersAt_parked_send' g E.Cp _ E.zs .send c
    · exact absurd (fun r => by rw [e]; simp) hs

/-- What a goroutine beside the one that steps offers. -/
theorem Co.get (hco : Co P E gs w T j K D hand own d0) {k : Nat} {x : Goroutine} (hk : gs[k]? = some x) : k = 0 ∨ ∃ i r, k = i + 1 ∧ i < j ∧ E.N ≤ K + r ∧ WS P E r (D i).stage (D i).fuel (D i).deaf (hand i) x w := by
  cases k with
  | zero => exact .inl rfl
  | succ i =>
    have hlt := (Array.getElem?_eq_some_iff.1 hk).1
    rw [hco.size] at hlt
    have hi : i < j := by omega
    obtain ⟨g, r, hg, hr, hs⟩ := hco.wk i hi
    rw [hk] at hg
    obtain rfl := Option.some.inj hg
    exact .inr ⟨i, r, rfl, hi, hr, hs⟩

/-- Nobody is parked at a send, but the caller. -/
theorem no_senders (hAr : ∀ g w, Anch g w → g.status = .running) (ha : gs[0]? = some a) (hcs : CS P E n Fin Anch tag jn K f d0 a w) (hco : Co P E gs w T j K D hand own d0) (i c : Nat) (hs : (∀ r, tag ≠ .sblk r) ∨ c ≠ E.Cp ∨ i = 0) : partners (gs.setIfInBounds i ph) c true = [] := by
  refine partners_nil fun k x hx => ?_
  rcases getElem?_stand gs i k x hx with ⟨_, rfl⟩ | ⟨hki, hk⟩
  · rfl
  · rcases hco.get hk with rfl | ⟨i', r, rfl, _, _, hw⟩
    · rw [ha] at hk
      obtain rfl := Option.some.inj hk
      rcases hs with hs | hs | hs
      · exact hcs.noOffer hAr hs c true
      · rcases hcs.status hAr with ⟨hr, _⟩ | ⟨r, g, _, rfl⟩ | ⟨_, e⟩
        · exact offersAt_of_not_blocked (by rw [hr]; decide) c true
        · have := offersAt_parked_send g E.Cp (place (E.N - (r + 1))) E.zs .send c
          rw [if_neg (Ne.symm hs)] at this
          exact this
        · exact hcs.noOffer hAr (fun r => by rw [e]; simp) c true
      · exact absurd hs.symm hki
    · exact hw.noSend c

theorem WS.deaf0 {r s m d : Nat} {o : Option Nat} {g : Goroutine} (h : WS P E r s m d o g w) (h7 : 7 ≤ s) : d = 0 := by
  cases h <;> first | rfl | omega

open Classical in
/-- A COMMUNICATION OF WORKER NUMBER i: what stands behind it. -/
theorem Co.comm (F : E.Fit) (hco : Co P E gs w T j K D hand own d0) {i : Nat} (hi : i < j) (hc : E.c0 ≤ i + 1) (hsz : gs'.size = gs.size) (hsame : ∀ i', i' < j → i' ≠ i → gs'[i' + 1]? = gs[i' + 1]?)
    {g' : Goroutine} (hme : gs'[i + 1]? = some g') (hrp : RP E w w') (hu : ∀ op ∈ u, (op.act.touch? = none ∧ op.act.low E.Bd) ∧ (op.act ≠ .mark .disable ∧ op.act ≠ .mark .enable) ∧ op.act ≠ .mark (.release (stA E.Wg)) ∧ (op.g = 0 ∨ op.g = i + 1))
    {K' r s' m' : Nat} {o' : Option Nat} (hK : K ≤ K') (hpt : PT E.Shun E.Wg E.C E.c0 E.Bd E.n0 own' K' j T) (hown : ∀ k, k < K → own' k = own k)
    (hws : WS P E r s' m' 0 o' g' w') (hKr : E.N ≤ K' + r) (h7 : 7 ≤ s') (hd : (D i).deaf = 0) (hwr : Wrote E K' j (upd hand i o') w') (hhnd : ∀ k, o' = some k → k < K' ∧ own' k = i + 1) (hchp : OpenAt E.Cp w') :
    Co P E gs' w' (T ++ u) j K' (upd D i ⟨s', m', 0⟩) (upd hand i o') own' d0 := by
  have hst : ∀ op ∈ u, op.act ≠ .mark .disable ∧ op.act ≠ .mark .enable := fun op hop => (hu op hop).2.1
  refine ⟨hsz.trans hco.size, fun i' hi' => ?_, fun i' hi' hc' => ?_, ?_, hco.norel.app fun op hop => (hu op hop).2.2.1, by rw [Deaf_still T 0 u hst, hco.deaf0], fun i' hi' => ?_, fun g hg => by rw [Deaf_still T g u hst, hco.above g hg], fun i' hi' hc' hst' => ?_, hwr, fun i' hi' k hk => ?_, hchp⟩
  · by_cases e : i' = i
    · subst e
      exact ⟨g', r, hme, hKr, by rw [upd_same, upd_same]; exact hws⟩
    · obtain ⟨x, rx, hx, hkx, hsx⟩ := hco.wk i' hi'
      exact ⟨x, rx, (hsame i' hi' e).trans hx, by omega, by rw [upd_ne D _ e, upd_ne hand _ e]; exact hsx.rely F hrp⟩
  · rw [upd_ne D _ (by omega)]; exact hco.old i' hi' hc'
  · have := PT.mutes F.CW u.toList T hpt fun op hop => (hu op (by simpa using hop)).1
    simpa using this
  · rw [Deaf_still T _ u hst]
    by_cases e : i' = i
    · subst e; rw [hco.deafW i' hi', upd_same, hd]
    · rw [hco.deafW i' hi', upd_ne D _ e]
  · by_cases e : i' = i
    · subst e; rw [upd_same] at hst'; simp only at hst'; omega
    · rw [upd_ne D _ e] at hst'
      obtain ⟨x, hx⟩ := hco.rel i' hi' hc' hst'
      exact ⟨x, hx.appNot fun op hop => by have := (hu op hop).2.2.2; omega⟩
  · by_cases e : i' = i
    · subst e; rw [upd_same] at hk; exact hhnd k hk
    · rw [upd_ne hand _ e] at hk
      obtain ⟨h1, h2⟩ := hco.hnd i' hi' k hk
      exact ⟨by omega, (hown k h1).trans h2⟩
end
end Pool
end Go.Proofs.Ytjehmdhcccmihaa
/-
  A pool of workers and its caller: A STEP OF A WORKER's keeps what holds of the machine, and lowers the measure.
-/
namespace Go.Proofs.Ytjehmdhcccmihaa
open Go.Conc Go.ConcN
open Go.ConcR (KK wgBlock WgAt stA smA rd wr mk Payload Aside2 DC0 Bk g_of_ofEvents bk_of_mute ofEvent_loc_mark ofEvent_cell)
namespace Pool

theorem vc_works {j i : Nat} (D : Nat → WD) (hi : i < j) (h5 : 5 ≤ (D i).stage) {s m d : Nat} (hs : 5 ≤ s) : Vc j (upd D i ⟨s, m, d⟩) = Vc j D := by
  have := Vc_upd D (⟨s, m, d⟩ : WD) hi
  have c1 : cnt (D i) = 1 := by simp [cnt, h5]
  have c2 : cnt (⟨s, m, d⟩ : WD) = 1 := by simp [cnt, hs]
  omega
theorem ssum_upd {j i : Nat} (D : Nat → WD) (hi : i < j) (s m d : Nat) : Ssum j (upd D i ⟨s, m, d⟩) + (D i).stage = Ssum j D + s := sumTo_upd D (⟨s, m, d⟩ : WD) WD.stage hi

section
variable [Payload] {P : Program} {E : Cfg} {n : Nat} {Fin Anch : Goroutine → World → Prop} {tag : Tag} {jn j K f d0 : Nat} {a : Goroutine} {w w' : World}
  {gs : Array Goroutine} {sl : Option (Nat × Nat)} {T : Trace} {D : Nat → WD} {hand : Nat → Option Nat} {own : Nat → Nat} {st sm : Int}

open Classical in
/-- The communication itself. -/
theorem stepSel (F : E.Fit) (hAr : ∀ g w, Anch g w → g.status = .running)
    (ha : gs[0]? = some a) (hcs : CS P E n Fin Anch tag jn K f d0 a w) (hj : j + 1 = E.c0 + jn) (hco : Co P E gs w T j K D hand own d0) (hwg : WgAt E.ty E.Wg w st sm) (hmd : Md j D tag st sm) (hph : Ph E tag j D) (hend : EndAt E.Cd (decide (after tag)) w)
    {i r : Nat} (hi : i < j) (hc : E.c0 ≤ i + 1) {g g₂ : Goroutine} (hg : gs[i + 1]? = some g) (hst : (D i).stage = 9) (hde : (D i).deaf = 0) (hhd : hand i = none) (hKr : E.N ≤ K + r)
    (hstep : stepG P false g w = .comm g₂ (selCases E) true .select w #[]) (hrun : g₂.status = .running) (hcore : ∀ w₁, RP E w w₁ → SelCore P E r g₂ w₁) :
    ∃ m₁ ops μ', runT P (crowd gs w sl) (i + 1) = (.next m₁, ops) ∧ Lt2 μ' (phi (E.c0 + n) E.N (Vc j D) tag + Ssum j D, f + 2 * Fsum j D) ∧ Inv P E n Fin Anch μ' m₁ (T ++ ops) := by
  have hi0 : (i + 1 == 0) = false := by simp
  have hstep' : stepG P (i + 1 == 0) g w = .comm g₂ (selCases E) true .select w #[] := by rw [hi0]; exact hstep
  obtain ⟨sp, rp, hcp⟩ := hco.chp
  obtain ⟨sd, rd', hcd⟩ := hend
  have hlt1 : i + 1 < gs.size := by rw [hco.size]; omega
  have h0lt : 0 < gs.size := by rw [hco.size]; omega
  by_cases haf : after tag
  · -- THE END
    simp only [haf, decide_true] at hcd
    have hnb : ∀ r, tag ≠ .sblk r := fun r e => by rw [e] at haf; exact haf
    have hp1 := no_senders hAr ha hcs hco (i + 1) E.Cp (.inl hnb)
    have hp2 := no_senders hAr ha hcs hco (i + 1) E.Cd (.inl hnb)
    have hrunT := crowd_sel_recv_closed (P := P) (sl := sl) (k := 1) (z := E.z1) hg hstep' rfl (fun m c' hm hc' => by
      match m, hc' with
      | 0, hc' => simp [selCases] at hc'; subst hc'; exact ways_recv_none hcp hp1
      | 1, _ => exact absurd rfl hm
      | m + 2, hc' => simp [selCases] at hc') hcd hp2
    obtain ⟨m', hm'⟩ := (show SelEnd P E g₂ w by
      have := hcore w (.refl w)
      cases r with
      | zero => exact this
      | succ r => exact this.1).2.2
    refine ⟨_, _, (phi (E.c0 + n) E.N (Vc j (upd D i ⟨7, m', 0⟩)) tag + Ssum j (upd D i ⟨7, m', 0⟩), f + 2 * Fsum j (upd D i ⟨7, m', 0⟩)), hrunT, ?_,
      _, w, sl, j, jn, K, upd D i ⟨7, m', 0⟩, upd hand i none, own, tag, f, d0, a, st, sm, rfl, by rw [Array.getElem?_setIfInBounds_ne (by omega)]; exact ha, hcs, hj,
      hco.comm F hi hc (by simp) (fun i' _ e => Array.getElem?_setIfInBounds_ne (by omega)) (g' := g₂.finishComm P (selCases E) .select 1 E.z1 false) (Array.getElem?_setIfInBounds_self_of_lt hlt1) (.refl w) (fun op hop => ?_) (Nat.le_refl K) hco.pt (fun _ _ => rfl)
        (.r0 hm') hKr (by omega) hde (hco.wrote.still rfl i hhd) (fun k hk => by cases hk) hco.chp,
      hwg, Md.works hmd (by omega) (by omega) m' 0, hph.set (.inl rfl) i (by omega) (fun h => absurd haf h), ⟨sd, rd', by simp only [haf, decide_true]; exact hcd⟩, rfl⟩
    · refine Prod.Lex.left _ _ ?_
      rw [vc_works D hi (by omega) (by omega)]
      have := ssum_upd D hi 7 m' 0
      omega
    · simp [MemOp.ofEvents] at hop
      subst hop
      exact ⟨⟨rfl, F.DB⟩, ⟨by simp, by simp⟩, by simp, .inr rfl⟩
  · simp only [haf, decide_false] at hcd
    by_cases hsb : ∃ rr, tag = .sblk rr
    · -- THE CALLER IS PARKED AT ITS SEND
      obtain ⟨rr, rfl⟩ := hsb
      have hp2 := no_senders hAr ha hcs hco (i + 1) E.Cd (.inr (.inl F.PD.symm))
      cases hcs with
      | sblk hrr hcore0 =>
        rename_i ga
        have hp1 : partners (gs.setIfInBounds (i + 1) ph) E.Cp true = [(0, 0)] := by
          have h0' : (gs.setIfInBounds (i + 1) ph)[0]? = some (parked ga (sendCases E (E.N - (rr + 1))) .send) := by rw [Array.getElem?_setIfInBounds_ne (by omega)]; exact ha
          rw [partners_one h0' (fun k x hk hx => ?_)]
          · have := offersAt_parked_send ga E.Cp (place (E.N - (rr + 1))) E.zs .send E.Cp
            rw [if_pos rfl] at this
            unfold sendCases
            rw [this]
            rfl
          · rcases getElem?_stand gs (i + 1) k x hx with ⟨_, rfl⟩ | ⟨_, hk'⟩
            · rfl
            · rcases hco.get hk' with rfl | ⟨i', r', _, _, _, hw'⟩
              · exact absurd rfl hk
              · exact hw'.noSend E.Cp
        have hrunT := crowd_sel_recv_meets (P := P) (sl := sl) (k := 0) (z := E.z0) (c := E.Cp) (j := 0) hg hstep' rfl (fun m c' hm hc' => by
          match m, hc' with
          | 0, _ => exact absurd rfl hm
          | 1, hc' => simp [selCases] at hc'; subst hc'; exact ways_recv_none hcd hp2
          | m + 2, hc' => simp [selCases] at hc') hcp (by omega) ha hp1
        obtain ⟨r, rfl⟩ : ∃ r', r = r' + 1 := ⟨r - 1, by omega⟩
        have hrp : RP E w (w.setChan E.Cp 0 #[] false (sp + 1) (rp + 1) false) := RP.of_chan F (.inl rfl)
        obtain ⟨m', hm'⟩ := (hcore _ hrp).2 (E.N - (rr + 1)) (by omega)
        obtain ⟨mc, hmc⟩ := (hcore0 _ hrp).2
        have hC : (w.setChan E.Cp 0 #[] false (sp + 1) (rp + 1) false).heap[E.C]? = w.heap[E.C]? := Array.getElem?_setIfInBounds_ne F.CP.symm
        have hD : (w.setChan E.Cp 0 #[] false (sp + 1) (rp + 1) false).heap[E.Cd]? = w.heap[E.Cd]? := Array.getElem?_setIfInBounds_ne F.PD
        have hW : (w.setChan E.Cp 0 #[] false (sp + 1) (rp + 1) false).heap[E.Wg]? = w.heap[E.Wg]? := Array.getElem?_setIfInBounds_ne F.PW
        have hP : OpenAt E.Cp (w.setChan E.Cp 0 #[] false (sp + 1) (rp + 1) false) := ⟨sp + 1, rp + 1, by
          simp only [World.setChan]
          exact Array.getElem?_setIfInBounds_self_of_lt (Array.getElem?_eq_some_iff.1 hcp).1⟩
        have hcs' : ∃ tag', CS P E n Fin Anch tag' n (E.N - (rr + 1) + 1) mc 0 (ga.finishComm P (sendCases E (E.N - (rr + 1))) .send 0 undef false) (w.setChan E.Cp 0 #[] false (sp + 1) (rp + 1) false) ∧
            (¬ after tag' ∧ (∀ r, tag' ≠ .sblk r) ∧ toC tag' = .kd) ∧ ∀ v, phi (E.c0 + n) E.N v tag' + 2 ≤ phi (E.c0 + n) E.N v (.sblk rr) := by
          cases rr with
          | zero =>
            refine ⟨.cl, ?_, ⟨fun h => h, by simp, rfl⟩, fun v => by simp only [phi]; omega⟩
            have e : E.N - (0 + 1) + 1 = E.N := by omega
            rw [e]
            exact .cl hmc
          | succ rr =>
            refine ⟨.snd rr, ?_, ⟨fun h => h, by simp, rfl⟩, fun v => by simp only [phi]; omega⟩
            have e : E.N - (rr + 1 + 1) + 1 = E.N - (rr + 1) := by omega
            have := CS.snd (Fin := Fin) (n := n) (show rr < E.N by omega) hmc
            rw [e]
            exact this
        obtain ⟨tag', hcs', ⟨hna, hnsb, htc⟩, hphi⟩ := hcs'
        refine ⟨_, _, (phi (E.c0 + n) E.N (Vc j (upd D i ⟨10, m', 0⟩)) tag' + Ssum j (upd D i ⟨10, m', 0⟩), mc + 2 * Fsum j (upd D i ⟨10, m', 0⟩)), hrunT, ?_,
          _, _, sl, j, n, E.N - (rr + 1) + 1, upd D i ⟨10, m', 0⟩, upd hand i (some (E.N - (rr + 1))), upd own (E.N - (rr + 1)) (i + 1), tag', mc, 0, ga.finishComm P (sendCases E (E.N - (rr + 1))) .send 0 undef false, st, sm, rfl,
          by rw [Array.getElem?_setIfInBounds_ne (by omega)]; exact Array.getElem?_setIfInBounds_self_of_lt h0lt, hcs', hj,
          hco.comm F hi hc (by simp) (fun i' _ e => by rw [Array.getElem?_setIfInBounds_ne (by omega), Array.getElem?_setIfInBounds_ne (by omega)]) (g' := g₂.finishComm P (selCases E) .select 0 (place (E.N - (rr + 1))) true)
            (Array.getElem?_setIfInBounds_self_of_lt (by simpa using hlt1)) hrp (fun op hop => ?_) (by omega) (hco.pt.give (i + 1)) (fun k hk => upd_ne own _ (by omega))
            (.st (by omega) hm') (by omega) (by omega) hde (hco.wrote.give hC hi hhd) (fun k hk => by cases hk; exact ⟨by omega, upd_same own _ _⟩) hP,
          hwg.of_block hW, by have := Md.works hmd (i := i) (by omega) (s' := 10) (by omega) m' 0; unfold Md at this ⊢; rw [htc]; exact this,
          ⟨fun _ i' hi' hc' => ?_, fun h => absurd h hna, fun r hr => absurd hr (hnsb r)⟩, ⟨sd, rd', by rw [hD]; simp only [hna, decide_false]; exact hcd⟩, rfl⟩
        · refine Prod.Lex.left _ _ ?_
          rw [vc_works D hi (by omega) (by omega)]
          have := ssum_upd D hi 10 m' 0
          have := hphi (Vc j D)
          omega
        · simp [MemOp.ofEvents] at hop
          rcases hop with rfl | rfl | rfl | rfl
          · exact ⟨⟨rfl, F.PB⟩, ⟨by simp, by simp⟩, by simp, .inl rfl⟩
          · exact ⟨⟨rfl, F.PB⟩, ⟨by simp, by simp⟩, by simp, .inr rfl⟩
          · exact ⟨⟨rfl, F.PB⟩, ⟨by simp, by simp⟩, by simp, .inl rfl⟩
          · exact ⟨⟨rfl, F.PB⟩, ⟨by simp, by simp⟩, by simp, .inr rfl⟩
        · by_cases e : i' = i
          · subst e; rw [upd_same]; simp
          · rw [upd_ne D _ e]; exact hph.pre (fun h => h) i' hi' hc'
    · -- IT PARKS
      have hnb : ∀ r, tag ≠ .sblk r := fun r e => hsb ⟨r, e⟩
      have hp1 := no_senders hAr ha hcs hco (i + 1) E.Cp (.inl hnb)
      have hp2 := no_senders hAr ha hcs hco (i + 1) E.Cd (.inl hnb)
      have hrunT := crowd_waits (P := P) (sl := sl) hg hstep' (fun cc hcc => by
        simp only [selCases, List.mem_toArray, List.mem_cons, List.not_mem_nil, or_false] at hcc
        rcases hcc with rfl | rfl
        · exact ways_recv_none hcp hp1
        · exact ways_recv_none hcd hp2)
      refine ⟨_, _, (phi (E.c0 + n) E.N (Vc j (upd D i ⟨8, 0, 0⟩)) tag + Ssum j (upd D i ⟨8, 0, 0⟩), f + 2 * Fsum j (upd D i ⟨8, 0, 0⟩)), hrunT, ?_,
        _, w, sl, j, jn, K, upd D i ⟨8, 0, 0⟩, upd hand i none, own, tag, f, d0, a, st, sm, rfl, by rw [Array.getElem?_setIfInBounds_ne (by omega)]; exact ha, hcs, hj,
        hco.comm F hi hc (by simp) (fun i' _ e => Array.getElem?_setIfInBounds_ne (by omega)) (g' := parked g₂ (selCases E) .select) (Array.getElem?_setIfInBounds_self_of_lt hlt1) (.refl w) (fun op hop => by simp [MemOp.ofEvents] at hop) (Nat.le_refl K) hco.pt (fun _ _ => rfl)
          (.park hrun hcore) hKr (by omega) hde (hco.wrote.still rfl i hhd) (fun k hk => by cases hk) hco.chp,
        hwg, Md.works hmd (by omega) (by omega) 0 0, ⟨fun h i' hi' hc' => ?_, fun h => absurd h haf, fun r hr => absurd hr (hnb r)⟩, ⟨sd, rd', by simp only [haf, decide_false]; exact hcd⟩, rfl⟩
      · refine Prod.Lex.left _ _ ?_
        rw [vc_works D hi (by omega) (by omega)]
        have := ssum_upd D hi 8 0 0
        omega
      · by_cases e : i' = i
        · subst e; rw [upd_same]; simp
        · rw [upd_ne D _ e]; exact hph.pre h i' hi' hc'
end
end Pool
end Go.Proofs.Ytjehmdhcccmihaa
/-
  A pool of workers and its caller: WHATEVER STEP OF A WORKER's keeps what holds of the machine, and lowers the measure.
-/
namespace Go.Proofs.Ytjehmdhcccmihaa
open Go.Conc Go.ConcN
open Go.ConcR (KK wgBlock WgAt stA smA rd wr mk Payload Aside2 DC0 Bk g_of_ofEvents bk_of_mute ofEvent_loc_mark ofEvent_cell)
namespace Pool

section
variable [Payload] {P : Program} {E : Cfg} {n : Nat} {Fin Anch : Goroutine → World → Prop} {tag : Tag} {jn j K f d0 : Nat} {a : Goroutine} {w w' : World}
  {gs : Array Goroutine} {sl : Option (Nat × Nat)} {T : Trace} {D : Nat → WD} {hand : Nat → Option Nat} {own : Nat → Nat} {st sm : Int}

open Classical in
set_option maxHeartbeats 1600000 in
theorem stepWork (F : E.Fit) (hAr : ∀ g w, Anch g w → g.status = .running) (hn : E.c0 + n < 2147483647)
    (ha : gs[0]? = some a) (hcs : CS P E n Fin Anch tag jn K f d0 a w) (hj : j + 1 = E.c0 + jn) (hco : Co P E gs w T j K D hand own d0) (hwg : WgAt E.ty E.Wg w st sm) (hmd : Md j D tag st sm) (hph : Ph E tag j D) (hend : EndAt E.Cd (decide (after tag)) w)
    {i : Nat} (hi : i < j) {g : Goroutine} (hg : gs[i + 1]? = some g) (hrun : g.status = .running) :
    ∃ m₁ ops μ', runT P (crowd gs w sl) (i + 1) = (.next m₁, ops) ∧ Lt2 μ' (phi (E.c0 + n) E.N (Vc j D) tag + Ssum j D, f + 2 * Fsum j D) ∧ Inv P E n Fin Anch μ' m₁ (T ++ ops) := by
  obtain ⟨g₁, r, hg₁, hKr, hs⟩ := hco.wk i hi
  obtain rfl : g = g₁ := by rw [hg] at hg₁; exact Option.some.inj hg₁
  generalize hst : (D i).stage = s at hs
  generalize hfu : (D i).fuel = m at hs
  generalize hde : (D i).deaf = dd at hs
  generalize hhd : hand i = o at hs
  have hle := hcs.le
  have hVj := Vc_le j D
  have hdk : Deaf T (i + 1) = dd := by rw [hco.deafW i hi, hde]
  have hnew : s ≠ 1 → E.c0 ≤ i + 1 := fun h => Nat.le_of_not_lt fun h' => h (by rw [← hst]; exact hco.old i hi h')
  have haft : s < 8 → E.c0 ≤ i + 1 → after tag := fun h h' => Classical.byContradiction fun hna => by have := hph.pre hna i hi h'; omega
  have hhnd : ∀ k, o = some k → k < K ∧ own k = i + 1 := fun k hk => hco.hnd i hi k (hhd.trans hk)
  -- AN IDLE STEP WHILE IT WORKS
  have idle7 : ∀ {g' : Goroutine} {w' : World} {es : Array Event} {m' : Nat}, stepG P false g w = .go g' w' es → DR E false w w' es → WS P E r s m' 0 o g' w' → dd = 0 → m' + 1 = m → 7 ≤ s → s ≠ 8 →
      ∃ m₁ ops μ', runT P (crowd gs w sl) (i + 1) = (.next m₁, ops) ∧ Lt2 μ' (phi (E.c0 + n) E.N (Vc j D) tag + Ssum j D, f + 2 * Fsum j D) ∧ Inv P E n Fin Anch μ' m₁ (T ++ ops) := by
    intro g' w' es m' hgo ⟨⟨d, hd⟩, hev⟩ hws hdd hm h7 h8
    subst hd
    have hc := hnew (by omega)
    exact workStep F hAr ha hcs hj hco hph hend hi hg hgo (RP.at w d) hKr hws (okP_of_ev (by simp) hev) (.inl hc) (fun e he => (hev e he).2.2.2.2) (by rw [hde, hdd]; exact ev_quiet hev 0) (fun _ h => by omega) (fun h => by omega)
      (hco.wrote.still rfl i hhd) hhnd hco.chp rfl hwg (fun _ ht _ => Md.retag (Md.works hmd (by omega) (by omega) m' 0) ht) h8 (fun hna _ => by have := hph.pre hna i hi hc; omega) (.inr ⟨hst.symm, by omega⟩)
  -- A STEP OF THE LIBRARY's BOOKKEEPING: at most the group's block turns
  have bookG : ∀ {g' : Goroutine} {w' : World} {es : Array Event} {s' m' dd' : Nat} {st' sm' : Int}, stepG P false g w = .go g' w' es → Aside E.Wg w w' → WgAt E.ty E.Wg w' st' sm' → (∀ e ∈ es, Bk E.Wg e) →
      (∀ jx e, es[jx]? = some e → (MemAct.ofEvent e).touch? = none ∨ 0 < deafBehind dd (es.extract 0 jx)) → WS P E r s' m' dd' none g' w' → o = none → deafBehind dd es = dd' → s ≤ 6 → s' ≤ s → (i + 1 < E.c0 → s' = 1 ∧ ∀ op ∈ MemOp.ofEvents (i + 1) g.frame.fn g.frame.place es, op.act.touch? = none) →
      (∀ tag', (tag' = tag ∨ (tag = .blk ∧ tag' = .w3)) → (mayWake P g = true → g'.status = .running → tag' ≠ .blk) → Md j (upd D i ⟨s', m', dd'⟩) tag' st' sm') → ((s' < s ∧ cnt ⟨s', m', dd'⟩ ≤ cnt (D i)) ∨ (s' = s ∧ m' + 1 = m)) →
      ∃ m₁ ops μ', runT P (crowd gs w sl) (i + 1) = (.next m₁, ops) ∧ Lt2 μ' (phi (E.c0 + n) E.N (Vc j D) tag + Ssum j D, f + 2 * Fsum j D) ∧ Inv P E n Fin Anch μ' m₁ (T ++ ops) := by
    intro g' w' es s' m' dd' st' sm' hgo hAs hwg' hbk hd hs' ho hdd h6 hss hold hmode' hlt
    exact workStep F hAr ha hcs hj hco hph hend hi hg hgo (RP.of_wg F hAs ⟨_, _, hwg'⟩) hKr hs' (okP_of_Bk F.W hbk) (by
        rcases Nat.lt_or_ge (i + 1) E.c0 with h | h
        · exact .inr (hold h).2
        · exact .inl h) (norel_of_Bk hbk) (by rw [hde]; exact hdd)
      (fun hc _ => let ⟨x, hx⟩ := hco.rel i hi hc (by omega); ⟨x, hx.book hdk _ _ hbk hd⟩) (fun h => (hold h).1) (hco.wrote.still (hAs.block E.C F.CW) i (hhd.trans ho)) (fun k hk => by cases hk)
      (let ⟨x, y, hxy⟩ := hco.chp; ⟨x, y, (hAs.block E.Cp F.PW).trans hxy⟩) (hAs.block E.Cd F.DW) hwg' hmode' (by omega) (fun hna hc => by have := hph.pre hna i hi hc; omega) (by rw [hst, hfu]; exact hlt)
  have book : ∀ {g' : Goroutine} {w' : World} {es : Array Event} {s' m' dd' : Nat} {st' sm' : Int}, s ≠ 1 → stepG P false g w = .go g' w' es → Aside E.Wg w w' → WgAt E.ty E.Wg w' st' sm' → (∀ e ∈ es, Bk E.Wg e) →
      (∀ jx e, es[jx]? = some e → (MemAct.ofEvent e).touch? = none ∨ 0 < deafBehind dd (es.extract 0 jx)) → WS P E r s' m' dd' none g' w' → o = none → deafBehind dd es = dd' → s ≤ 6 → s' ≤ s →
      Md j (upd D i ⟨s', m', dd'⟩) tag st' sm' → ((s' < s ∧ cnt ⟨s', m', dd'⟩ ≤ cnt (D i)) ∨ (s' = s ∧ m' + 1 = m)) →
      ∃ m₁ ops μ', runT P (crowd gs w sl) (i + 1) = (.next m₁, ops) ∧ Lt2 μ' (phi (E.c0 + n) E.N (Vc j D) tag + Ssum j D, f + 2 * Fsum j D) ∧ Inv P E n Fin Anch μ' m₁ (T ++ ops) :=
    fun h1 hgo hAs hwg' hbk hd hs' ho hdd h6 hss hmode' hlt => bookG hgo hAs hwg' hbk hd hs' ho hdd h6 hss (fun h => by have := hnew h1; omega) (fun _ ht _ => Md.retag hmode' ht) hlt
  have idle : ∀ {g' : Goroutine} {m' : Nat}, s ≠ 1 → stepG P false g w = .go g' w #[] → WS P E r s m' dd none g' w → o = none → m' + 1 = m → s ≤ 6 →
      ∃ m₁ ops μ', runT P (crowd gs w sl) (i + 1) = (.next m₁, ops) ∧ Lt2 μ' (phi (E.c0 + n) E.N (Vc j D) tag + Ssum j D, f + 2 * Fsum j D) ∧ Inv P E n Fin Anch μ' m₁ (T ++ ops) := by
    intro g' m' h1 hgo hs' ho hm h6
    exact book h1 hgo (.refl E.Wg w) hwg (by simp) (by simp) hs' ho rfl h6 (Nat.le_refl s) (by have := Md.same (i := i) hmd m' dd; rwa [hst] at this) (.inr ⟨rfl, hm⟩)
  have bk1 : ∀ {ad : Addr} {wr' : Bool}, ad.block = E.Wg → ∀ e ∈ #[(⟨.cell ad, wr', true⟩ : Event)], Bk E.Wg e := fun hb e he => by
    rw [Array.mem_singleton] at he; subst he; exact bk_cell _ _ hb
  have df1 : ∀ (x : Event), dd = 1 → ∀ jx e, (#[x] : Array Event)[jx]? = some e → (MemAct.ofEvent e).touch? = none ∨ 0 < deafBehind dd ((#[x] : Array Event).extract 0 jx) := fun x hd jx e he => by
    match jx, he with
    | 0, _ => exact .inr (by rw [hd]; simp [deafBehind])
    | jx + 1, he => simp at he
  cases hs with
  | st hkN h =>
    rename_i k
    rcases Goes.cases h with hstop | ⟨m', rfl, hstep⟩
    · obtain ⟨_, hx⟩ := hstop w (RP.refl w)
      obtain ⟨g', hgo, m₂, hk⟩ := hx hco.wrote.ok
      have hA := aside_setCell w ⟨E.C, k, none⟩ (E.val k)
      have hc := hnew (by omega)
      obtain ⟨hkK, hok⟩ := hhnd k rfl
      exact workStep F hAr ha hcs hj hco hph hend hi hg hgo (RP.of_store F hco.wrote.ok k _) hKr (.sel hk) (okP_store F.CB hkK hok) (.inl hc) (by intro e he; rw [Array.mem_singleton] at he; subst he; simp) (by rw [hde]; rfl) (fun _ h => by omega) (fun h => by omega)
        (hco.wrote.store hhd hkN) (fun k hk => by cases hk) (let ⟨x, y, hxy⟩ := hco.chp; ⟨x, y, (hA.block E.Cp F.CP.symm).trans hxy⟩) (hA.block E.Cd F.CD.symm) (hwg.of_block (hA.block E.Wg F.CW.symm))
        (fun _ ht _ => Md.retag (Md.works hmd (by omega) (by omega) m₂ 0) ht) (by omega) (fun _ _ => by omega) (.inl ⟨by omega, by simp [cnt, hst]⟩)
    · obtain ⟨g', w', es, hgo, hD, hg'⟩ := hstep w (RP.refl w)
      exact idle7 hgo hD (.st hkN hg') rfl rfl (by omega) (by omega)
  | sel h =>
    rcases Goes.cases h with hstop | ⟨m', rfl, hstep⟩
    · obtain ⟨g₂, of, rfl, hs₂, hcore⟩ := hstop w (RP.refl w)
      have hall : ∀ w₁, RP E w w₁ → SelCore P E r g₂ w₁ := fun w₁ h₁ => by
        obtain ⟨g₃, of₃, e, hs₃, hc₃⟩ := hstop w₁ h₁
        have o3 := (show SelEnd P E g₃ w₁ by
          cases r with
          | zero => exact hc₃
          | succ r => exact hc₃.1).1
        have o2 := (show SelEnd P E g₂ w by
          cases r with
          | zero => exact hcore
          | succ r => exact hcore.1).1
        have : g₂ = g₃ := by
          obtain ⟨f1, c1, s1, d1, of1⟩ := g₂
          obtain ⟨f2, c2, s2, d2, of2⟩ := g₃
          simp only [Goroutine.mk.injEq] at e
          simp only at o2 o3
          subst o2 o3
          obtain ⟨rfl, rfl, rfl, rfl, _⟩ := e
          rfl
        rw [this]; exact hc₃
      have hstepc := (show SelEnd P E g₂ w by
        cases r with
        | zero => exact hcore
        | succ r => exact hcore.1).2.1
      exact stepSel F hAr ha hcs hj hco hwg hmd hph hend hi (hnew (by omega)) hg hst hde hhd hKr hstepc hs₂ hall
    · obtain ⟨g', w', es, hgo, hD, hg'⟩ := hstep w (RP.refl w)
      exact idle7 hgo hD (.sel hg') rfl rfl (by omega) (by omega)
  | park _ _ => cases hrun
  | r0 h =>
    have hc := hnew (by omega)
    have hat := haft (by omega) hc
    rcases Goes.cases h with hstop | ⟨m', rfl, hstep⟩
    · obtain ⟨_, _, g', hgo, m₂, hk⟩ := hstop w (RP.refl w)
      exact workStep F hAr ha hcs hj hco hph hend hi hg hgo (RP.refl w) hKr (.k1 hk) (okP_mark F.W rfl) (.inl hc) (by intro e he; rw [Array.mem_singleton] at he; subst he; simp [mk]) (by rw [hde]; rfl)
        (fun _ _ => ⟨T.size, RelBy.new hdk _ _⟩) (fun h => by omega) (hco.wrote.still rfl i hhd) (fun k hk => by cases hk) hco.chp rfl hwg (fun _ ht _ => Md.retag (Md.counted hmd hi (by omega) (.inl rfl) m₂ 0) ht) (by omega) (fun h => absurd hat h) (.inl ⟨by omega, by simp [cnt, hst]⟩)
    · obtain ⟨g', w', es, hgo, hD, hg'⟩ := hstep w (RP.refl w)
      exact idle7 hgo hD (.r0 hg') rfl rfl (by omega) (by omega)
  | k1 h =>
    rcases Goes.cases h with hstop | ⟨m', rfl, hstep⟩
    · obtain ⟨_, g', hgo, m₂, hk⟩ := hstop w (RW.refl w)
      exact book (by omega) hgo (.refl E.Wg w) hwg (by intro e he; simp at he; subst he; exact .inl rfl) (by intro jx e he; exact .inl (by have := Array.mem_of_getElem? he; simp at this; subst this; rfl)) (.d1 hk) rfl rfl (by omega) (by omega)
        (Md.counted hmd hi (by omega) (.inr rfl) _ _) (.inl ⟨by omega, by simp [cnt, hst]⟩)
    · obtain ⟨g', w', es, hgo, ⟨rfl, rfl⟩, hg'⟩ := hstep w (RW.refl w)
      exact idle (by omega) hgo (.k1 hg') rfl rfl (by omega)
  | d1 h =>
    rcases Goes.cases h with hstop | ⟨m', rfl, hstep⟩
    · obtain ⟨_, hall⟩ := hstop w (RW.refl w)
      have hi7 : (cl7 D i).stage = 5 := by simp only [cl7]; omega
      have hc1 : cnt (cl7 D i) = 1 := by simp [cnt, hi7]
      have hV1 : 1 ≤ Vc j (cl7 D) := by have := le_sumTo (f := fun x => cnt (cl7 D x)) hi; simp only [Vc]; omega
      have hV7 := Vc_cl7 j D
      have bk2 : ∀ e ∈ #[rd (stA E.Wg), wr (stA E.Wg)], Bk E.Wg e := by intro e he; simp at he; rcases he with rfl | rfl <;> exact bk_cell _ _ rfl
      have df2 : ∀ jx e, (#[rd (stA E.Wg), wr (stA E.Wg)] : Array Event)[jx]? = some e → (MemAct.ofEvent e).touch? = none ∨ 0 < deafBehind 1 ((#[rd (stA E.Wg), wr (stA E.Wg)] : Array Event).extract 0 jx) := by
        intro jx e he
        match jx, he with
        | 0, _ => exact .inr (by simp [deafBehind])
        | 1, _ => exact .inr (by simp [deafBehind, rd])
        | jx + 2, he => simp at he
      have opq : ∀ q, ConcN.OpenSt j (cl7 D) → ConcN.OpenSt j (upd (cl7 D) i ⟨1, q, 1⟩) := fun q h a ha => by
        by_cases e : a = i
        · subst e; rw [upd_same]; simp
        · rw [upd_ne _ _ e]; exact h a ha
      have hvq : ∀ q, Vc j (upd (cl7 D) i ⟨1, q, 1⟩) + 1 = Vc j (cl7 D) := fun q => by
        have h1 := Vc_upd (cl7 D) (⟨1, q, 1⟩ : WD) hi
        have h2 : cnt (⟨1, q, 1⟩ : WD) = 0 := rfl
        omega
      have mdq : ∀ q st' sm', ConcN.Mode j (upd (cl7 D) i ⟨1, q, 1⟩) (toC tag) st' sm' → Md j (upd D i ⟨1, q, 1⟩) tag st' sm' := fun q st' sm' h => by
        unfold Md; rw [cl7_upd]; exact h
      have hb : Vc j (cl7 D) + pend (toC tag) < 2147483647 := by omega
      unfold Md at hmd
      generalize hC : toC tag = c at hmd mdq hb
      cases hmd with
      | opn h1 h2 h3 =>
        obtain ⟨v, hv⟩ : ∃ v, Vc j (cl7 D) + pend c = v + 1 := ⟨Vc j (cl7 D) + pend c - 1, by omega⟩
        rw [hv] at hwg
        have hw1 : WgAt E.ty E.Wg w (((v : Nat) + 1) * KK + ((0 : Nat) : Int)) 0 := by simpa using hwg
        obtain ⟨g', hgo, _, hq⟩ := hall v 0 (by omega) (by omega) hw1
        obtain ⟨q, hq⟩ := hq (by omega)
        have hv' : Vc j (upd (cl7 D) i ⟨1, q, 1⟩) + pend c = v := by have := hvq q; omega
        refine book (by omega) hgo (aside_setCell w (stA E.Wg) _) (hwg.setSt _) bk2 df2 (.quit hq) rfl rfl (by omega) (by omega) (mdq q _ _ ?_) (.inl ⟨by omega, by simp [cnt]⟩)
        have e : ((v : Nat) : Int) * KK + ((0 : Nat) : Int) = ((Vc j (upd (cl7 D) i ⟨1, q, 1⟩) + pend c : Nat) : Int) * KK := by rw [hv']; simp
        rw [e]
        exact .opn h1 (opq q h2) (fun vs ev => by have := h3 vs ev; have := hvq q; omega)
      | reg h1 h2 h3 =>
        obtain ⟨v, hv⟩ : ∃ v, Vc j (cl7 D) = v + 1 := ⟨Vc j (cl7 D) - 1, by omega⟩
        rw [hv] at hwg
        have hw1 : WgAt E.ty E.Wg w (((v : Nat) + 1) * KK + ((1 : Nat) : Int)) 0 := by simpa using hwg
        obtain ⟨g', hgo, hl, hq⟩ := hall v 1 (by omega) (by omega) hw1
        by_cases hv0 : v = 0
        · subst hv0
          obtain ⟨m₂, hk⟩ := hl ⟨rfl, rfl⟩
          refine book (by omega) hgo (aside_setCell w (stA E.Wg) _) (hwg.setSt _) bk2 df2 (.d2 hk) rfl rfl (by omega) (by omega) ?_ (.inl ⟨by omega, by simp [cnt]⟩)
          have hoth : ∀ a, a < j → a ≠ i → (cl7 D a).stage = 1 := fun a ha e => by
            have c0 := others_uncounted hi hv hc1 a ha e
            have := h2 a ha
            simp only [cnt] at c0
            split at c0 <;> omega
          have := ConcN.Mode.last (j := j) (D := upd (cl7 D) i ⟨4, m₂, 1⟩) (tag := c) i h1 hi (by rw [upd_same]; simp) (fun a ha e => by rw [upd_ne _ _ e]; exact hoth a ha e)
          rw [upd_same] at this
          unfold Md
          rw [cl7_upd, hC]
          simpa using this
        · obtain ⟨q, hq⟩ := hq (by omega)
          have hv' : Vc j (upd (cl7 D) i ⟨1, q, 1⟩) = v := by have := hvq q; omega
          refine book (by omega) hgo (aside_setCell w (stA E.Wg) _) (hwg.setSt _) bk2 df2 (.quit hq) rfl rfl (by omega) (by omega) (mdq q _ _ ?_) (.inl ⟨by omega, by simp [cnt]⟩)
          have e : ((v : Nat) : Int) * KK + ((1 : Nat) : Int) = ((Vc j (upd (cl7 D) i ⟨1, q, 1⟩) : Nat) : Int) * KK + 1 := by rw [hv']; simp
          rw [e]
          exact .reg h1 (opq q h2) (by omega)
      | last L _ h2 h3 h4 =>
        by_cases e : i = L
        · subst e; omega
        · have := h4 i hi e; omega
      | sema h2 => have := h2 i hi; omega
      | fin _ h2 => have := h2 i hi; omega
    · obtain ⟨g', w', es, hgo, ⟨rfl, rfl⟩, hg'⟩ := hstep w (RW.refl w)
      exact idle (by omega) hgo (.d1 hg') rfl rfl (by omega)
  | d2 h =>
    rcases Goes.cases h with hstop | ⟨m', rfl, hstep⟩
    · obtain ⟨_, hx⟩ := hstop w (RW.refl w)
      have hi7 : (cl7 D i).stage = 4 := by simp only [cl7]; omega
      obtain ⟨hW3, hoth, rfl, rfl⟩ := ConcN.Mode.isLast hmd hi (by omega)
      simp only [hi7] at hwg
      obtain ⟨g', hgo, m₂, hk⟩ := hx (by simpa using hwg)
      refine book (by omega) hgo (.refl E.Wg w) hwg (bk1 rfl) (df1 _ rfl) (.d3 hk) rfl rfl (by omega) (by omega) ?_ (.inl ⟨by omega, by simp [cnt]⟩)
      have := ConcN.Mode.last (j := j) (D := upd (cl7 D) i ⟨3, m₂, 1⟩) (tag := toC tag) i hW3 hi (by rw [upd_same]; simp) (fun a ha e => by rw [upd_ne _ _ e]; exact hoth a ha e)
      rw [upd_same] at this
      unfold Md
      rw [cl7_upd]
      simpa using this
    · obtain ⟨g', w', es, hgo, ⟨rfl, rfl⟩, hg'⟩ := hstep w (RW.refl w)
      exact idle (by omega) hgo (.d2 hg') rfl rfl (by omega)
  | d3 h =>
    rcases Goes.cases h with hstop | ⟨m', rfl, hstep⟩
    · obtain ⟨_, hx⟩ := hstop w (RW.refl w)
      have hi7 : (cl7 D i).stage = 3 := by simp only [cl7]; omega
      obtain ⟨hW3, hoth, rfl, rfl⟩ := ConcN.Mode.isLast hmd hi (by omega)
      simp only [hi7] at hwg
      obtain ⟨g', hgo, m₂, hk⟩ := hx (by simpa using hwg)
      refine book (by omega) hgo (aside_setCell w (stA E.Wg) _) (hwg.setSt 0) (bk1 rfl) (df1 _ rfl) (.d4 hk) rfl rfl (by omega) (by omega) ?_ (.inl ⟨by omega, by simp [cnt]⟩)
      have := ConcN.Mode.last (j := j) (D := upd (cl7 D) i ⟨2, m₂, 1⟩) (tag := toC tag) i hW3 hi (by rw [upd_same]; simp) (fun a ha e => by rw [upd_ne _ _ e]; exact hoth a ha e)
      rw [upd_same] at this
      unfold Md
      rw [cl7_upd]
      simpa using this
    · obtain ⟨g', w', es, hgo, ⟨rfl, rfl⟩, hg'⟩ := hstep w (RW.refl w)
      exact idle (by omega) hgo (.d3 hg') rfl rfl (by omega)
  | d4 h =>
    rcases Goes.cases h with hstop | ⟨m', rfl, hstep⟩
    · obtain ⟨_, hmw, hx⟩ := hstop w (RW.refl w)
      have hi7 : (cl7 D i).stage = 2 := by simp only [cl7]; omega
      obtain ⟨hW3, hoth, rfl, rfl⟩ := ConcN.Mode.isLast hmd hi (by omega)
      simp only [hi7] at hwg
      obtain ⟨g', hgo, q, hq⟩ := hx (by simpa using hwg)
      have hrun' : g'.status = .running := by
        cases q with
        | zero => exact absurd hq.2 (by decide)
        | succ q => exact hq.elim (fun x => absurd x.2 (by decide)) (fun x => x.1)
      refine bookG hgo (aside_setCell w (smA E.Wg) _) (hwg.setSm 1) (es := semEvents (smA E.Wg)) bk_sem ?_ (.quit hq) rfl (by simp [deafBehind, semEvents]) (by omega) (by omega) (fun h => by have := hnew (by omega); omega) ?_ (.inl ⟨by omega, by simp [cnt]⟩)
      · intro jx e he
        match jx, he with
        | 0, he => simp [semEvents] at he; subst he; exact .inl rfl
        | 1, _ => exact .inr (by simp [deafBehind, semEvents])
        | 2, _ => exact .inr (by simp [deafBehind, semEvents])
        | 3, he => simp [semEvents] at he; subst he; exact .inl rfl
        | jx + 4, he => simp [semEvents] at he
      · intro tag' ht hw
        have hnb := hw hmw hrun'
        have e3 : tag' = .w3 := by
          rcases ht with rfl | ⟨_, rfl⟩
          · cases tag' <;> first | rfl | exact hW3.elim | exact absurd rfl hnb
          · rfl
        subst e3
        simp only [if_true]
        unfold Md
        rw [cl7_upd]
        exact .sema fun a ha => by
          by_cases e : a = i
          · subst e; rw [upd_same]; rfl
          · rw [upd_ne _ _ e]; exact hoth a ha e
    · obtain ⟨g', w', es, hgo, ⟨rfl, rfl⟩, hg'⟩ := hstep w (RW.refl w)
      exact idle (by omega) hgo (.d4 hg') rfl rfl (by omega)
  | quit h =>
    cases m with
    | zero => rw [h.1] at hrun; cases hrun
    | succ q =>
      rcases h with ⟨hf, _⟩ | ⟨_, g', es, hmute, hstep, hq⟩
      · rw [hf] at hrun; cases hrun
      · have hbk : ∀ e ∈ es, Bk E.Wg e := fun e he => bk_of_mute (hmute e he)
        have hmt : ∀ e ∈ es, (MemAct.ofEvent e).touch? = none := fun e he => touch_mute (hmute e he)
        exact bookG (hstep w) (.refl E.Wg w) hwg hbk (fun jx e he => .inl (hmt e (Array.mem_of_getElem? he))) (.quit hq) rfl rfl (by omega) (by omega) (fun _ => ⟨rfl, fun op hop => by obtain ⟨e, he, rfl⟩ := mem_ops hop; exact hmt e he⟩)
          (fun _ ht _ => Md.retag (by have := Md.same (i := i) hmd q (deafBehind dd es); rwa [hst] at this) ht) (.inr ⟨rfl, rfl⟩)
end
end Pool
end Go.Proofs.Ytjehmdhcccmihaa
/-
  A pool of workers and its caller: the pieces of the caller's step: an ordinary one; the go statement; the close; a send.
-/
namespace Go.Proofs.Ytjehmdhcccmihaa
open Go.Conc Go.ConcN
open Go.ConcR (KK wgBlock WgAt stA smA rd wr mk Payload Aside2 DC0 Bk g_of_ofEvents ofEvent_loc_mark ofEvent_cell)
namespace Pool

theorem sumTo_add_le {f g : Nat → Nat} : ∀ {j : Nat}, (∀ i, i < j → f i ≤ g i + 1) → sumTo j f ≤ sumTo j g + j
  | 0, _ => Nat.le_refl _
  | j + 1, h => by
    have := sumTo_add_le (f := f) (g := g) (j := j) fun i hi => h i (by omega)
    have := h j (by omega)
    simp only [sumTo]
    omega

section
variable [Payload] {P : Program} {E : Cfg} {n : Nat} {Fin Anch : Goroutine → World → Prop} {tag : Tag} {jn j K f d0 : Nat} {a : Goroutine} {w w' : World}
  {gs : Array Goroutine} {sl : Option (Nat × Nat)} {T : Trace} {D : Nat → WD} {hand : Nat → Option Nat} {own : Nat → Nat} {st sm : Int}

/-- An ordinary step of the caller's: what holds of all others. -/
theorem Co.call (F : E.Fit) (hco : Co P E gs w T j K D hand own d0) {a a' : Goroutine} {fn : FuncId} {pos : String} {es : Array Event} (hrp : RP E w w')
    (hop : ∀ op ∈ MemOp.ofEvents 0 fn pos es, OkP E.Shun E.Wg E.C E.Bd own K 0 op) (hnr : ∀ e ∈ es, e.loc ≠ .mark (.release (stA E.Wg))) (hC : w'.heap[E.C]? = w.heap[E.C]?) (hchp : OpenAt E.Cp w')
    (h8 : ∀ i, i < j → (D i).stage = 8 → OpenAt E.Cd w') :
    Co P E ((gs.map (woken P a a' w')).setIfInBounds 0 a') w' (T ++ MemOp.ofEvents 0 fn pos es) j K D hand own (deafBehind d0 es) := by
  refine ⟨by simp [hco.size], fun i hi => ?_, hco.old, hco.pt.app F.CW hop (.inl (.inl rfl)), hco.norel.app (norel_of hnr), by rw [Deaf_own, hco.deaf0], fun i hi => by rw [Deaf_other T (by omega) _ g_of_ofEvents, hco.deafW i hi], fun g hg => by rw [Deaf_other T (by omega) _ g_of_ofEvents, hco.above g hg],
    fun i hi hc hst => ?_, hco.wrote.of_block hC, hco.hnd, hchp⟩
  · obtain ⟨x, rx, hx, hkx, hsx⟩ := hco.wk i hi
    refine ⟨x, rx, ?_, hkx, hsx.rely F hrp⟩
    rw [get_map_set _ _ _ _ (by omega), hx, Option.map_some, hsx.woken (fun h => ⟨hchp, h8 i hi h⟩)]
  · obtain ⟨x, hx⟩ := hco.rel i hi hc hst
    exact ⟨x, hx.appOther g_of_ofEvents (by omega)⟩

open Classical in
/-- WHATEVER STEP OF THE CALLER's THAT IS NO COMMUNICATION, NO go STATEMENT AND NO CLOSE. -/
theorem callStep (F : E.Fit) (ha : gs[0]? = some a) (hj : j + 1 = E.c0 + jn) (hco : Co P E gs w T j K D hand own d0)
    {a' : Goroutine} {es : Array Event} {tag' : Tag} {f' : Nat} {st' sm' : Int} (hgo : stepG P true a w = .go a' w' es) (hrp : RP E w w')
    (hop : ∀ op ∈ MemOp.ofEvents 0 a.frame.fn a.frame.place es, OkP E.Shun E.Wg E.C E.Bd own K 0 op) (hnr : ∀ e ∈ es, e.loc ≠ .mark (.release (stA E.Wg))) (hC : w'.heap[E.C]? = w.heap[E.C]?) (hchp : OpenAt E.Cp w')
    (hcs' : CS P E n Fin Anch tag' jn K f' (deafBehind d0 es) a' w') (hwg : WgAt E.ty E.Wg w' st' sm') (hmd : Md j D tag' st' sm') (hph : Ph E tag' j D) (hend : EndAt E.Cd (decide (after tag')) w')
    (hlt : phi (E.c0 + n) E.N (Vc j D) tag' < phi (E.c0 + n) E.N (Vc j D) tag ∨ (phi (E.c0 + n) E.N (Vc j D) tag' = phi (E.c0 + n) E.N (Vc j D) tag ∧ f' < f)) :
    ∃ m₁ ops μ', runT P (crowd gs w sl) 0 = (.next m₁, ops) ∧ Lt2 μ' (phi (E.c0 + n) E.N (Vc j D) tag + Ssum j D, f + 2 * Fsum j D) ∧ Inv P E n Fin Anch μ' m₁ (T ++ ops) := by
  have hrun := runT_crowd_go (P := P) (sl := sl) (i := 0) ha (by simpa using hgo)
  refine ⟨_, _, (phi (E.c0 + n) E.N (Vc j D) tag' + Ssum j D, f' + 2 * Fsum j D), hrun, ?_,
    _, w', sl, j, jn, K, D, hand, own, tag', f', deafBehind d0 es, a', st', sm', rfl, get_map_set_same _ _ _ (by rw [hco.size]; omega), hcs', hj, hco.call F hrp hop hnr hC hchp (fun i hi h8 => ?_), hwg, hmd, hph, hend, rfl⟩
  · rcases hlt with h | ⟨h1, h2⟩
    · exact Prod.Lex.left _ _ (by omega)
    · rw [h1]; exact Prod.Lex.right _ (by omega)
  · obtain ⟨x, y, hxy⟩ := hend
    have hna : ¬ after tag' := fun h => hph.post h i hi h8
    exact ⟨x, y, by rw [hxy]; simp [hna]⟩

/-- Behind a go statement. -/
theorem Co.spawn (F : E.Fit) (hco : Co P E gs w T j K D hand own 0) (hj : j + 1 = E.c0 + jn) {a' child : Goroutine} {x y : MemOp} {m : Nat} (hx : x.g = 0 ∧ x.act = .go (j + 1)) (hy : y.g = j + 1 ∧ y.act = .start)
    (hc : GoW P E (AtSel P E E.N) m child w) : Co P E ((gs.setIfInBounds 0 a').push child) w (T ++ #[x, y]) (j + 1) K (upd D j ⟨9, m, 0⟩) (upd hand j none) own 0 := by
  have hm : ∀ op ∈ #[x, y], op = x ∨ op = y := by intro op hop; simpa using hop
  have hst : ∀ op ∈ #[x, y], op.act ≠ .mark .disable ∧ op.act ≠ .mark .enable := by
    intro op hop
    rcases hm op hop with rfl | rfl
    · rw [hx.2]; exact ⟨by simp, by simp⟩
    · rw [hy.2]; exact ⟨by simp, by simp⟩
  refine ⟨by simp [hco.size], fun i hi => ?_, fun i hi hlt => ?_, hco.pt.fork F.CW hx hy hco.deaf0 (hco.above (j + 1) (by omega)), hco.norel.app fun op hop => ?_, by rw [Deaf_still T 0 _ hst, hco.deaf0], fun i hi => ?_, fun g hg => by rw [Deaf_still T g _ hst, hco.above g (by omega)],
    fun i hi hc' hs => ?_, hco.wrote.more, fun i hi k hk => ?_, hco.chp⟩
  · rcases Nat.lt_or_ge i j with hlt | hge
    · obtain ⟨g, r, hg, hr, hsg⟩ := hco.wk i hlt
      refine ⟨g, r, ?_, hr, by rw [upd_ne D _ (by omega), upd_ne hand _ (by omega)]; exact hsg⟩
      rw [Array.getElem?_push_lt (by simp [hco.size]; omega), ← Array.getElem?_eq_getElem, Array.getElem?_setIfInBounds_ne (by omega)]
      exact hg
    · obtain rfl : i = j := by omega
      refine ⟨child, E.N, ?_, by omega, by rw [upd_same, upd_same]; exact .sel hc⟩
      rw [show i + 1 = (gs.setIfInBounds 0 a').size by simp [hco.size], Array.getElem?_push_size]
  · rw [upd_ne D _ (by omega)]; exact hco.old i (by omega) hlt
  · rcases hm op hop with rfl | rfl
    · rw [hx.2]; simp
    · rw [hy.2]; simp
  · rw [Deaf_still T _ _ hst]
    rcases Nat.lt_or_ge i j with hlt | hge
    · rw [hco.deafW i hlt, upd_ne D _ (by omega)]
    · obtain rfl : i = j := by omega
      rw [upd_same]
      exact hco.above (i + 1) (by omega)
  · rcases Nat.lt_or_ge i j with hlt | hge
    · rw [upd_ne D _ (by omega)] at hs
      obtain ⟨r, hr⟩ := hco.rel i hlt hc' hs
      refine ⟨r, hr.appNot fun op hop => ?_⟩
      rcases hm op hop with rfl | rfl
      · rw [hx.1]; omega
      · rw [hy.1]; omega
    · obtain rfl : i = j := by omega
      rw [upd_same] at hs
      simp at hs
  · rcases Nat.lt_or_ge i j with hlt | hge
    · rw [upd_ne hand _ (by omega)] at hk
      exact hco.hnd i hlt k hk
    · obtain rfl : i = j := by omega
      rw [upd_same] at hk; cases hk

/-- Who is parked is let try again. -/
def unpark (D : Nat → WD) : Nat → WD := fun i => if (D i).stage = 8 then ⟨9, 0, 0⟩ else D i
omit [Payload] in
theorem cl7_unpark (D : Nat → WD) (a : Nat) : (cl7 (unpark D) a).stage = (cl7 D a).stage := by
  by_cases h : (D a).stage = 8
  · simp [cl7, unpark, h]
  · simp [cl7, unpark, h]
omit [Payload] in
theorem Vc_unpark (j : Nat) (D : Nat → WD) : Vc j (unpark D) = Vc j D := by
  rw [← Vc_cl7 j (unpark D), ← Vc_cl7 j D]
  exact sumTo_congr fun i _ => by simp only [cnt, cl7_unpark]
omit [Payload] in
theorem Ssum_unpark (j : Nat) (D : Nat → WD) : Ssum j (unpark D) ≤ Ssum j D + j := sumTo_add_le fun i _ => by
  by_cases h : (D i).stage = 8
  · simp [unpark, h]
  · simp [unpark, h]

/-- Behind the close. -/
theorem Co.close (F : E.Fit) (hco : Co P E gs w T j K D hand own d0) {a a' : Goroutine} {fn : FuncId} {pos : String} {s r : Nat} (hmw : mayWake P a = true) (ha' : a'.status = .running)
    (hcd : w.heap[E.Cd]? = some (.chan 0 #[] false s r false)) :
    Co P E ((gs.map (woken P a a' (w.setChan E.Cd 0 #[] true s r false))).setIfInBounds 0 a') (w.setChan E.Cd 0 #[] true s r false) (T ++ MemOp.ofEvents 0 fn pos #[⟨.obj E.Cd, false, true⟩, ⟨.obj E.Cd, true, true⟩]) j K (unpark D) hand own d0 := by
  have hlt : E.Cd < w.heap.size := (Array.getElem?_eq_some_iff.1 hcd).1
  have hrp : RP E w (w.setChan E.Cd 0 #[] true s r false) := RP.of_chan F (.inr rfl)
  have hcd' : (w.setChan E.Cd 0 #[] true s r false).heap[E.Cd]? = some (.chan 0 #[] true s r false) := by
    simp only [World.setChan]; exact Array.getElem?_setIfInBounds_self_of_lt hlt
  have hC : (w.setChan E.Cd 0 #[] true s r false).heap[E.C]? = w.heap[E.C]? := Array.getElem?_setIfInBounds_ne F.CD.symm
  have hP : (w.setChan E.Cd 0 #[] true s r false).heap[E.Cp]? = w.heap[E.Cp]? := Array.getElem?_setIfInBounds_ne F.PD.symm
  have eops : ∀ op ∈ MemOp.ofEvents 0 fn pos #[⟨.obj E.Cd, false, true⟩, ⟨.obj E.Cd, true, true⟩], op.g = 0 ∧ (op.act = .access ⟨.obj E.Cd, false, true⟩ ∨ op.act = .close E.Cd) := by
    intro op hop
    obtain ⟨e, he, rfl⟩ := mem_ops hop
    simp only [List.mem_toArray, List.mem_cons, List.not_mem_nil, or_false] at he
    rcases he with rfl | rfl
    · exact ⟨rfl, .inl rfl⟩
    · exact ⟨rfl, .inr rfl⟩
  refine ⟨by simp [hco.size], fun i hi => ?_, fun i hi hc => ?_, hco.pt.app F.CW (g := 0) (fun op hop => ?_) (.inl (.inl rfl)), hco.norel.app (fun op hop => by rcases (eops op hop).2 with h | h <;> rw [h] <;> simp), ?_, fun i hi => ?_, fun g hg => by rw [Deaf_other T (by omega) _ g_of_ofEvents, hco.above g hg],
    fun i hi hc hst => ?_, hco.wrote.of_block hC, hco.hnd, let ⟨x, y, hxy⟩ := hco.chp; ⟨x, y, hP.trans hxy⟩⟩
  · obtain ⟨x, rx, hx, hkx, hsx⟩ := hco.wk i hi
    have hw : woken P a a' (w.setChan E.Cd 0 #[] true s r false) x = x.again (w.setChan E.Cd 0 #[] true s r false) := by
      unfold Go.Conc.woken; simp [hmw, ha']
    by_cases h8 : (D i).stage = 8
    · rw [h8] at hsx
      generalize hfu : (D i).fuel = m at hsx
      generalize hde : (D i).deaf = dd at hsx
      generalize hhd : hand i = o at hsx
      cases hsx with
      | park hs hcore =>
        rename_i g₁
        refine ⟨{ parked g₁ (selCases E) .select with status := .running }, rx, ?_, hkx, ?_⟩
        · rw [get_map_set _ _ _ _ (by omega), hx, Option.map_some, hw, again_some_closed (k := 1) (by rfl) hcd']
        · have e9 : unpark D i = ⟨9, 0, 0⟩ := by simp [unpark, h8]
          rw [e9]
          refine .sel (m := 0) (Goes.stop fun w₁ h₁ => ⟨g₁, some (selCases E, .select), ?_, hs, hcore w₁ (hrp.trans h₁)⟩)
          obtain ⟨f1, c1, s1, d1, of1⟩ := g₁
          simp only at hs
          subst hs
          rfl
    · have e9 : unpark D i = D i := by simp [unpark, h8]
      refine ⟨x, rx, ?_, hkx, by rw [e9]; exact hsx.rely F hrp⟩
      rw [get_map_set _ _ _ _ (by omega), hx, Option.map_some, hsx.woken (fun h => absurd h h8)]
  · have h1 := hco.old i hi hc
    simp [unpark, h1]
  · obtain ⟨h1, h2⟩ := eops op hop
    rcases h2 with h2 | h2
    · refine ⟨h1, by rw [h2]; exact F.DB, fun x hx => ?_⟩
      rw [h2] at hx
      simp only [MemAct.touch?, Option.some.injEq] at hx
      subst hx
      exact .inr (.inr (.inr ⟨fun ⟨_, h, _⟩ => (by cases h), fun ⟨_, h, _⟩ => (by cases h), rfl, rfl, rfl⟩))
    · exact ⟨h1, by rw [h2]; exact F.DB, fun x hx => by rw [h2] at hx; cases hx⟩
  · rw [Deaf_own, hco.deaf0]
    exact deafBehind_still (fun e he => by simp only [List.mem_toArray, List.mem_cons, List.not_mem_nil, or_false] at he; rcases he with rfl | rfl <;> exact ⟨by simp, by simp⟩) d0
  · rw [Deaf_other T (by omega) _ g_of_ofEvents, hco.deafW i hi]
    by_cases h8 : (D i).stage = 8
    · obtain ⟨x, rx, _, _, hsx⟩ := hco.wk i hi
      rw [hsx.deaf0 (by omega)]
      simp [unpark, h8]
    · simp [unpark, h8]
  · have hst' : (D i).stage ≤ 6 := by
      by_cases h8 : (D i).stage = 8
      · simp [unpark, h8] at hst
      · simpa [unpark, h8] using hst
    obtain ⟨x, hx⟩ := hco.rel i hi hc hst'
    exact ⟨x, hx.appOther g_of_ofEvents (by omega)⟩
end
end Pool
end Go.Proofs.Ytjehmdhcccmihaa
/-
  A pool of workers and its caller: A SEND, and the first look in Wait.
-/
namespace Go.Proofs.Ytjehmdhcccmihaa
open Go.Conc Go.ConcN
open Go.ConcR (KK wgBlock WgAt stA smA rd wr mk Payload Aside2 DC0 Bk g_of_ofEvents ofEvent_loc_mark ofEvent_cell)
namespace Pool

section
variable {E : Cfg} {j : Nat} {D : Nat → WD} {tag tag' : Tag}
theorem Ph.of (h : Ph E tag j D) (e : after tag' ↔ after tag) (hs : ∀ r, tag' ≠ .sblk r) : Ph E tag' j D :=
  ⟨fun ha => h.pre (fun x => ha (e.2 x)), fun ha => h.post (e.1 ha), fun r hr => absurd hr (hs r)⟩
end

section
variable [Payload] {P : Program} {E : Cfg} {n : Nat} {Fin Anch : Goroutine → World → Prop} {tag : Tag} {jn j K f d0 : Nat} {a : Goroutine} {w w' : World}
  {gs : Array Goroutine} {sl : Option (Nat × Nat)} {T : Trace} {D : Nat → WD} {hand : Nat → Option Nat} {own : Nat → Nat} {st sm : Int}

theorem CS.sends {r m : Nat} (hr : r ≤ E.N) (h : GoC P E (SendsT P E Anch r) m a w) :
    ∃ tag', CS P E n Fin Anch tag' n (E.N - r) m 0 a w ∧ (¬ after tag' ∧ (∀ r, tag' ≠ .sblk r) ∧ toC tag' = .kd) ∧ ∀ x v, phi x E.N v tag' ≤ 16 * x + 8 * r + 20 := by
  cases r with
  | zero => exact ⟨.cl, .cl h, ⟨fun h => h, by simp, rfl⟩, fun x v => by simp only [phi]; omega⟩
  | succ r => exact ⟨.snd r, .snd (by omega) h, ⟨fun h => h, by simp, rfl⟩, fun x v => by simp only [phi]; omega⟩

open Classical in
/-- AT A SEND. -/
theorem stepSend (F : E.Fit) {r : Nat} (hrN : r < E.N)
    (ha : gs[0]? = some a) (hj : j + 1 = E.c0 + n) (hco : Co P E gs w T j (E.N - (r + 1)) D hand own 0) (hwg : WgAt E.ty E.Wg w st sm) (hmd : Md j D (.snd r) st sm) (hph : Ph E (.snd r) j D) (hend : EndAt E.Cd (decide (after (.snd r))) w)
    (hcore : ∀ w₁, RP E w w₁ → SendCore P E (E.N - (r + 1)) (SendsT P E Anch r) a w₁) :
    ∃ m₁ ops μ', runT P (crowd gs w sl) 0 = (.next m₁, ops) ∧ Lt2 μ' (phi (E.c0 + n) E.N (Vc j D) (.snd r) + Ssum j D, f + 2 * Fsum j D) ∧ Inv P E n Fin Anch μ' m₁ (T ++ ops) := by
  have hna : ¬ after (.snd r) := fun h => h
  have hstep : stepG P (0 == 0) a w = .comm a (sendCases E (E.N - (r + 1))) true .send w #[] := (hcore w (.refl w)).1
  obtain ⟨sp, rp, hcp⟩ := hco.chp
  obtain ⟨sd, rd', hcd⟩ := hend
  simp only [hna, decide_false] at hcd
  have h0lt : 0 < gs.size := by rw [hco.size]; omega
  have hother : ∀ k x, (gs.setIfInBounds 0 ph)[k]? = some x → x = ph ∨ ∃ i rr, k = i + 1 ∧ i < j ∧ gs[i + 1]? = some x ∧ E.N ≤ (E.N - (r + 1)) + rr ∧ WS P E rr (D i).stage (D i).fuel (D i).deaf (hand i) x w := by
    intro k x hx
    rcases getElem?_stand gs 0 k x hx with ⟨_, rfl⟩ | ⟨hk0, hk⟩
    · exact .inl rfl
    · rcases hco.get hk with rfl | ⟨i, rr, rfl, hi, hr, hw⟩
      · exact absurd rfl hk0
      · exact .inr ⟨i, rr, rfl, hi, hk, hr, hw⟩
  have hofs : ∀ g₁ : Goroutine, offersAt (parked g₁ (selCases E) .select) E.Cp false = [0] := fun g₁ =>
    offersAt_parked_at (k := 0) (z := E.z0) rfl (fun m cc hm hcc => by
      match m, hcc with
      | 0, _ => exact absurd rfl hm
      | 1, hcc => simp [selCases] at hcc; subst hcc; simp [rcase]; exact F.PD.symm
      | m + 2, hcc => simp [selCases] at hcc)
  by_cases h8 : ∃ i, i < j ∧ (D i).stage = 8
  · -- IT MEETS ONE OF THOSE THAT ARE PARKED
    obtain ⟨i, hi, hi8⟩ := h8
    have hne : partners (gs.setIfInBounds 0 ph) E.Cp false ≠ [] := by
      obtain ⟨x, rr, hx, _, hw⟩ := hco.wk i hi
      rcases hw.status with ⟨_, g₁, _, rfl⟩ | ⟨h1, _⟩ | ⟨h1, _, _⟩
      · have : ((i + 1, 0) : Nat × Nat) ∈ partners (gs.setIfInBounds 0 ph) E.Cp false := mem_partners.2 ⟨_, by rw [Array.getElem?_setIfInBounds_ne (by omega)]; exact hx, by rw [hofs]; simp⟩
        intro e; rw [e] at this; cases this
      · omega
      · exact absurd hi8 h1
    obtain ⟨k, gk, d, hk0, hgk, hrunT⟩ := send_meets (P := P) (sl := sl) (c := E.Cp) (cs := selCases E) (sh := .select) (zj := E.z0) ha hstep hcp hne rfl (fun k y hky => by
      obtain ⟨x, hx, hy⟩ := mem_partners.1 hky
      rcases hother k x hx with rfl | ⟨i', rr, rfl, hi', hgx, _, hw⟩
      · cases hy
      · rcases hw.status with ⟨_, g₁, _, rfl⟩ | ⟨h1, _⟩ | ⟨h1, _, _⟩
        · rw [hofs] at hy
          simp only [List.mem_singleton] at hy
          exact ⟨hy, by omega, g₁, hgx⟩
        · rw [hw.noOffer (by omega)] at hy; cases hy
        · rw [hw.noOffer h1] at hy; cases hy)
    rcases hco.get hgk with rfl | ⟨i, rr, rfl, hi, hKr, hw⟩
    · exact absurd rfl hk0
    generalize hst : (D i).stage = s at hw
    generalize hfu : (D i).fuel = m at hw
    generalize hde : (D i).deaf = dd at hw
    generalize hhd : hand i = o at hw
    generalize hx : parked gk (selCases E) .select = x at hw hgk
    have hsx : s = 8 := by
      rcases hw.status with ⟨h1, _⟩ | ⟨_, h1⟩ | ⟨_, _, h1⟩
      · exact h1
      · subst hx; rcases h1 with h1 | h1 <;> cases h1
      · subst hx; cases h1
    subst hsx
    cases hw with
    | park hs₁ hcore₁ =>
      rename_i g₁
      have hfin : ∀ v, gk.finishComm P (selCases E) .select 0 v true = g₁.finishComm P (selCases E) .select 0 v true := fun v => by
        rw [← finishComm_parked P gk (selCases E) (selCases E) .select .select, hx, finishComm_parked]
      obtain ⟨rr, rfl⟩ : ∃ r', rr = r' + 1 := ⟨rr - 1, by omega⟩
      have hc : E.c0 ≤ i + 1 := Nat.le_of_not_lt fun h' => by have := hco.old i hi h'; omega
      have hrp : RP E w ((w.at d).setChan E.Cp 0 #[] false (sp + 1) (rp + 1) false) := (RP.at w d).trans (RP.of_chan F (.inl rfl))
      obtain ⟨m', hm'⟩ := (hcore₁ _ hrp).2 (E.N - (r + 1)) (by omega)
      obtain ⟨mc, hmc⟩ := (hcore _ hrp).2
      obtain ⟨tag', hcs', ⟨hna', hnsb, htc⟩, hphi⟩ := CS.sends (n := n) (Fin := Fin) (r := r) (by omega) hmc
      have eK : E.N - (r + 1) + 1 = E.N - r := by omega
      have hC : ((w.at d).setChan E.Cp 0 #[] false (sp + 1) (rp + 1) false).heap[E.C]? = w.heap[E.C]? := Array.getElem?_setIfInBounds_ne F.CP.symm
      have hD : ((w.at d).setChan E.Cp 0 #[] false (sp + 1) (rp + 1) false).heap[E.Cd]? = w.heap[E.Cd]? := Array.getElem?_setIfInBounds_ne F.PD
      have hW : ((w.at d).setChan E.Cp 0 #[] false (sp + 1) (rp + 1) false).heap[E.Wg]? = w.heap[E.Wg]? := Array.getElem?_setIfInBounds_ne F.PW
      have hP : OpenAt E.Cp ((w.at d).setChan E.Cp 0 #[] false (sp + 1) (rp + 1) false) := ⟨sp + 1, rp + 1, by
        simp only [World.setChan]
        exact Array.getElem?_setIfInBounds_self_of_lt (Array.getElem?_eq_some_iff.1 hcp).1⟩
      have hlt1 : i + 1 < gs.size := by rw [hco.size]; omega
      rw [hfin] at hrunT
      refine ⟨_, _, (phi (E.c0 + n) E.N (Vc j (upd D i ⟨10, m', 0⟩)) tag' + Ssum j (upd D i ⟨10, m', 0⟩), mc + 2 * Fsum j (upd D i ⟨10, m', 0⟩)), hrunT, ?_,
        _, _, sl, j, n, E.N - r, upd D i ⟨10, m', 0⟩, upd hand i (some (E.N - (r + 1))), upd own (E.N - (r + 1)) (i + 1), tag', mc, 0, a.finishComm P (sendCases E (E.N - (r + 1))) .send 0 undef false, st, sm, rfl,
        Array.getElem?_setIfInBounds_self_of_lt (by simpa using h0lt), hcs', hj,
        hco.comm F hi hc (by simp) (fun i' _ e => by rw [Array.getElem?_setIfInBounds_ne (by omega), Array.getElem?_setIfInBounds_ne (by omega)]) (g' := g₁.finishComm P (selCases E) .select 0 (place (E.N - (r + 1))) true)
          (by rw [Array.getElem?_setIfInBounds_ne (by omega)]; exact Array.getElem?_setIfInBounds_self_of_lt hlt1) hrp (fun op hop => ?_) (by omega) (by rw [← eK]; exact hco.pt.give (i + 1)) (fun k hk => upd_ne own _ (by omega))
          (.st (by omega) hm') (by omega) (by omega) hde (by rw [← eK]; exact hco.wrote.give hC hi hhd) (fun k hk => by cases hk; exact ⟨by omega, upd_same own _ _⟩) hP,
        hwg.of_block hW, by have := Md.works hmd (i := i) (by omega) (s' := 10) (by omega) m' 0; unfold Md at this ⊢; rw [htc]; exact this,
        ⟨fun _ i' hi' hc' => ?_, fun h => absurd h hna', fun r hr => absurd hr (hnsb r)⟩, ⟨sd, rd', by rw [hD]; simp only [hna', decide_false]; exact hcd⟩, rfl⟩
      · refine Prod.Lex.left _ _ ?_
        rw [vc_works D hi (by omega) (by omega)]
        have := ssum_upd D hi 10 m' 0
        have := hphi (E.c0 + n) (Vc j D)
        have e : phi (E.c0 + n) E.N (Vc j D) (.snd r) = 16 * (E.c0 + n) + 8 * r + 24 := rfl
        omega
      · simp [MemOp.ofEvents] at hop
        rcases hop with rfl | rfl | rfl | rfl
        · exact ⟨⟨rfl, F.PB⟩, ⟨by simp, by simp⟩, by simp, .inl rfl⟩
        · exact ⟨⟨rfl, F.PB⟩, ⟨by simp, by simp⟩, by simp, .inr rfl⟩
        · exact ⟨⟨rfl, F.PB⟩, ⟨by simp, by simp⟩, by simp, .inl rfl⟩
        · exact ⟨⟨rfl, F.PB⟩, ⟨by simp, by simp⟩, by simp, .inr rfl⟩
      · by_cases e : i' = i
        · subst e; rw [upd_same]; simp
        · rw [upd_ne D _ e]; exact hph.pre (fun h => h) i' hi' hc'
  · -- NOBODY IS PARKED: IT PARKS ITSELF
    have hno : ∀ i, i < j → (D i).stage ≠ 8 := fun i hi h => h8 ⟨i, hi, h⟩
    have hp : partners (gs.setIfInBounds 0 ph) E.Cp false = [] := partners_nil fun k x hx => by
      rcases hother k x hx with rfl | ⟨i', rr, rfl, hi', _, _, hw⟩
      · rfl
      · exact hw.noOffer (hno i' hi') E.Cp false
    have hrunT := crowd_waits (P := P) (sl := sl) ha hstep (fun cc hcc => by
      simp only [sendCases, List.mem_toArray, List.mem_cons, List.not_mem_nil, or_false] at hcc
      subst hcc
      exact ways_send_none hcp (by simp) hp)
    refine ⟨_, _, (phi (E.c0 + n) E.N (Vc j D) (.sblk r) + Ssum j D, 0 + 2 * Fsum j D), hrunT, Prod.Lex.left _ _ (by simp only [phi]; omega),
      _, w, sl, j, n, E.N - (r + 1), D, hand, own, .sblk r, 0, 0, _, st, sm, rfl, Array.getElem?_setIfInBounds_self_of_lt h0lt, .sblk hrN hcore, hj, ?_, hwg, hmd, ⟨hph.pre, fun h => h.elim, fun _ _ => hno⟩, ⟨sd, rd', by rw [decide_eq_false (show ¬ after (.sblk r) from fun h => h)]; exact hcd⟩, rfl⟩
    have e0 : T ++ MemOp.ofEvents 0 a.frame.fn a.frame.place #[] = T := by simp [MemOp.ofEvents]
    rw [e0]
    refine ⟨by simp [hco.size], fun i hi => ?_, hco.old, hco.pt, hco.norel, hco.deaf0, hco.deafW, hco.above, hco.rel, hco.wrote, hco.hnd, hco.chp⟩
    obtain ⟨x, rx, hx, hkx, hsx⟩ := hco.wk i hi
    exact ⟨x, rx, by rw [Array.getElem?_setIfInBounds_ne (by omega)]; exact hx, hkx, hsx⟩
end
end Pool
end Go.Proofs.Ytjehmdhcccmihaa
/-
  A pool of workers and its caller: EVERY STEP OF THE CALLER's keeps what holds of the machine and lowers the measure, or it is the last one of the phase.
-/
namespace Go.Proofs.Ytjehmdhcccmihaa
open Go.Conc Go.ConcN
open Go.ConcR (KK wgBlock WgAt stA smA rd wr mk Payload Aside2 DC0 Bk g_of_ofEvents ofEvent_loc_mark ofEvent_cell ofEvent_mk)
namespace Pool

section
variable [Payload] (P : Program) (E : Cfg)
/-- The phase is over: all others only leave; all is written; the caller knows all. -/
def Done (n : Nat) (Fin : Goroutine → World → Prop) (M : Machine) (T : Trace) : Prop :=
  ∃ (gs : Array Goroutine) (a : Goroutine) (w : World) (sl : Option (Nat × Nat)) (q : Nat → Nat), M = crowd gs w sl ∧ gs.size = E.c0 + n ∧ gs[0]? = some a ∧ a.status = .running ∧ Fin a w ∧ Leavers P T gs q ∧
    Past (fun l => E.Shun l ∨ ShN E.Wg l) E.Bd T ∧ ∃ arr, w.heap[E.C]? = some (.cells arr E.ety) ∧ arr.size = E.N ∧ ∀ k, k < E.N → arr[k]? = some (E.val k)
end

section
variable [Payload] {P : Program} {E : Cfg} {n : Nat} {Fin Anch : Goroutine → World → Prop} {tag : Tag} {jn j K f d0 : Nat} {a : Goroutine} {w w' : World}
  {gs : Array Goroutine} {sl : Option (Nat × Nat)} {T : Trace} {D : Nat → WD} {hand : Nat → Option Nat} {own : Nat → Nat} {st sm : Int}

open Classical in
/-- An idle step. -/
theorem idleC (F : E.Fit) (ha : gs[0]? = some a) (hj : j + 1 = E.c0 + jn) (hco : Co P E gs w T j K D hand own d0) (hwg : WgAt E.ty E.Wg w st sm) (hmd : Md j D tag st sm) (hph : Ph E tag j D) (hend : EndAt E.Cd (decide (after tag)) w)
    {a' : Goroutine} {es : Array Event} {f' : Nat} (hgo : stepG P true a w = .go a' w' es) (hD : DR E true w w' es) (hcs' : CS P E n Fin Anch tag jn K f' d0 a' w') (hf : f' < f) :
    ∃ m₁ ops μ', runT P (crowd gs w sl) 0 = (.next m₁, ops) ∧ Lt2 μ' (phi (E.c0 + n) E.N (Vc j D) tag + Ssum j D, f + 2 * Fsum j D) ∧ Inv P E n Fin Anch μ' m₁ (T ++ ops) := by
  obtain ⟨⟨d, rfl⟩, hev⟩ := hD
  exact callStep F ha hj hco hgo (RP.at w d) (okP_of_ev (fun _ => rfl) hev) (fun e he => (hev e he).2.2.2.2) rfl hco.chp (by rw [ev_quiet hev]; exact hcs') hwg hmd hph hend (.inr ⟨rfl, hf⟩)

open Classical in
/-- The library's bookkeeping: at most the group's block turns. -/
theorem bookC (F : E.Fit) (ha : gs[0]? = some a) (hj : j + 1 = E.c0 + jn) (hco : Co P E gs w T j K D hand own d0) (hph : Ph E tag j D) (hend : EndAt E.Cd (decide (after tag)) w)
    {a' : Goroutine} {es : Array Event} {tag' : Tag} {f' : Nat} {st' sm' : Int} (hgo : stepG P true a w = .go a' w' es) (hA : Aside E.Wg w w') (hwg : WgAt E.ty E.Wg w' st' sm') (hbk : ∀ e ∈ es, Bk E.Wg e)
    (hcs' : CS P E n Fin Anch tag' jn K f' (deafBehind d0 es) a' w') (hmd : Md j D tag' st' sm') (he : after tag' ↔ after tag) (hs : ∀ r, tag' ≠ .sblk r) (hlt : phi (E.c0 + n) E.N (Vc j D) tag' < phi (E.c0 + n) E.N (Vc j D) tag) :
    ∃ m₁ ops μ', runT P (crowd gs w sl) 0 = (.next m₁, ops) ∧ Lt2 μ' (phi (E.c0 + n) E.N (Vc j D) tag + Ssum j D, f + 2 * Fsum j D) ∧ Inv P E n Fin Anch μ' m₁ (T ++ ops) :=
  callStep F ha hj hco hgo (RP.of_wg F hA ⟨_, _, hwg⟩) (okP_of_Bk F.W hbk) (norel_of_Bk hbk) (hA.block E.C F.CW) (let ⟨x, y, h⟩ := hco.chp; ⟨x, y, (hA.block E.Cp F.PW).trans h⟩) hcs' hwg hmd (hph.of he hs)
    (let ⟨x, y, h⟩ := hend; ⟨x, y, (hA.block E.Cd F.DW).trans (by rw [h]; simp only [he])⟩) (.inl hlt)

open Classical in
/-- The first look in Wait. -/
theorem stepW1 (F : E.Fit) (hn : E.c0 + n < 2147483647) (ha : gs[0]? = some a) (hj : j + 1 = E.c0 + n) (hco : Co P E gs w T j E.N D hand own 1) (hwg : WgAt E.ty E.Wg w st sm) (hmd : Md j D .w1 st sm) (hph : Ph E .w1 j D) (hend : EndAt E.Cd (decide (after .w1)) w)
    (h : GoC P E (AtW1 P E Fin Anch) f a w) :
    ∃ m₁ ops μ', runT P (crowd gs w sl) 0 = (.next m₁, ops) ∧ Lt2 μ' (phi (E.c0 + n) E.N (Vc j D) .w1 + Ssum j D, f + 2 * Fsum j D) ∧ Inv P E n Fin Anch μ' m₁ (T ++ ops) := by
  have hVj := Vc_le j D
  have hV7 := Vc_cl7 j D
  rcases Goes.cases h with hstop | ⟨m', rfl, hstep⟩
  · obtain ⟨_, hall⟩ := hstop w (.refl w)
    obtain ⟨ho, rfl, rfl, _⟩ := ConcN.Mode.open_inv hmd trivial
    obtain ⟨a', hgo, h0, h1⟩ := hall (Vc j (cl7 D)) (by omega) (by simpa [toC, pend] using hwg)
    by_cases hv : Vc j (cl7 D) = 0
    · obtain ⟨m₂, hk⟩ := h0 hv
      refine bookC F ha hj hco hph hend hgo (.refl E.Wg w) hwg bk_rd (.ke hk) ?_ Iff.rfl (by simp) (by simp only [phi]; omega)
      have e0 : ((Vc j (cl7 D) + pend (toC .w1) : Nat) : Int) * KK = 0 := by rw [hv]; simp [toC, pend]
      rw [e0]
      exact .fin trivial (allQuit_of ho hv)
    · obtain ⟨m₂, hk⟩ := h1 hv
      exact bookC F ha hj hco hph hend hgo (.refl E.Wg w) hwg bk_rd (.w2 hk) (ConcN.Mode.reopen hmd trivial trivial rfl (fun vs e => by cases e; exact ⟨Nat.le_refl _, by omega⟩)) Iff.rfl (by simp) (by simp only [phi]; omega)
  · obtain ⟨a', w', es, hgo, hD, hg'⟩ := hstep w (.refl w)
    exact idleC F ha hj hco hwg hmd hph hend hgo hD (.w1 hg') (by omega)

open Classical in
set_option maxHeartbeats 1600000 in
theorem stepCall (F : E.Fit) (hn : E.c0 + n < 2147483647) (hAn : ∀ g w, Anch g w → ∃ m, GoC P E (AtW1 P E Fin Anch) m g w)
    (ha : gs[0]? = some a) (hcs : CS P E n Fin Anch tag jn K f d0 a w) (hj : j + 1 = E.c0 + jn) (hco : Co P E gs w T j K D hand own d0) (hwg : WgAt E.ty E.Wg w st sm) (hmd : Md j D tag st sm) (hph : Ph E tag j D) (hend : EndAt E.Cd (decide (after tag)) w) (hrun : a.status = .running) :
    (∃ m₁ ops, runT P (crowd gs w sl) 0 = (.next m₁, ops) ∧ Done P E n Fin m₁ (T ++ ops)) ∨
    (∃ m₁ ops μ', runT P (crowd gs w sl) 0 = (.next m₁, ops) ∧ Lt2 μ' (phi (E.c0 + n) E.N (Vc j D) tag + Ssum j D, f + 2 * Fsum j D) ∧ Inv P E n Fin Anch μ' m₁ (T ++ ops)) := by
  have hVj := Vc_le j D
  have hV7 := Vc_cl7 j D
  have hle := hcs.le
  cases hcs with
  | skd hr h =>
    rcases Goes.cases h with hstop | ⟨m', rfl, hstep⟩
    · obtain ⟨_, a', hgo, m₂, hk⟩ := hstop w (.refl w)
      exact .inr (bookC F ha hj hco hph hend hgo (.refl E.Wg w) hwg bk_dis (.sa1 hr hk) (ConcN.Mode.reopen hmd trivial trivial rfl (by simp [toC])) Iff.rfl (by simp) (by simp only [phi]; omega))
    · obtain ⟨a', w', es, hgo, hD, hg'⟩ := hstep w (.refl w)
      exact .inr (idleC F ha hj hco hwg hmd hph hend hgo hD (.skd hr hg') (by omega))
  | sa1 hr h =>
    rename_i r
    rcases Goes.cases h with hstop | ⟨m', rfl, hstep⟩
    · obtain ⟨_, hall⟩ := hstop w (.refl w)
      obtain ⟨ho, rfl, rfl, _⟩ := ConcN.Mode.open_inv hmd trivial
      obtain ⟨a', hgo, m₂, hk⟩ := hall (Vc j (cl7 D)) (by omega) (by simpa [toC, pend] using hwg)
      refine .inr (bookC F ha hj hco hph hend hgo (aside_setCell w (stA E.Wg) _) (hwg.setSt _) bk_rw (.ske hr hk) ?_ Iff.rfl (by simp) (by simp only [phi]; omega))
      have e : (((Vc j (cl7 D) : Nat) : Int) + 1) * KK = ((Vc j (cl7 D) + pend (toC (.sp r 3)) : Nat) : Int) * KK := by simp [toC, pend]
      rw [e]
      exact .opn trivial ho (by simp [toC])
    · obtain ⟨a', w', es, hgo, hD, hg'⟩ := hstep w (.refl w)
      exact .inr (idleC F ha hj hco hwg hmd hph hend hgo hD (.sa1 hr hg') (by omega))
  | ske hr h =>
    rcases Goes.cases h with hstop | ⟨m', rfl, hstep⟩
    · obtain ⟨_, a', hgo, m₂, hk⟩ := hstop w (.refl w)
      exact .inr (bookC F ha hj hco hph hend hgo (.refl E.Wg w) hwg bk_en (.sgo hr hk) (ConcN.Mode.reopen hmd trivial trivial rfl (by simp [toC])) Iff.rfl (by simp) (by simp only [phi]; omega))
    · obtain ⟨a', w', es, hgo, hD, hg'⟩ := hstep w (.refl w)
      exact .inr (idleC F ha hj hco hwg hmd hph hend hgo hD (.ske hr hg') (by omega))
  | sgo hr h =>
    rename_i r
    rcases Goes.cases h with hstop | ⟨m', rfl, hstep⟩
    · obtain ⟨_, a', child, hsp, _, ⟨m₂, hwk⟩, m₃, hnext⟩ := hstop w (.refl w)
      obtain ⟨ho, rfl, rfl, _⟩ := ConcN.Mode.open_inv hmd trivial
      have hrun' := runT_crowd_spawn (P := P) (sl := sl) (i := 0) ha (by simpa using hsp)
      rw [hco.size] at hrun'
      have hco' := hco.spawn F hj (a' := a') (x := { g := 0, fn := a.frame.fn, pos := a.frame.place, act := .go (j + 1) }) (y := { g := j + 1, fn := child.frame.fn, pos := a.frame.place, act := .start }) ⟨rfl, rfl⟩ ⟨rfl, rfl⟩ hwk
      have ha' : ((gs.setIfInBounds 0 a').push child)[0]? = some a' := by
        rw [Array.getElem?_push_lt (by simp [hco.size]), ← Array.getElem?_eq_getElem]
        simp [hco.size]
      have eV : Vc (j + 1) (cl7 (upd D j ⟨9, m₂, 0⟩)) = Vc j (cl7 D) + 1 := by
        rw [cl7_upd]
        simp only [Vc, sumTo, upd_same]
        rw [sumTo_upd_out _ _ cnt (Nat.le_refl _)]; rfl
      have eS : Ssum (j + 1) (upd D j ⟨9, m₂, 0⟩) = Ssum j D + 9 := by
        simp only [Ssum, sumTo, upd_same]
        rw [sumTo_upd_out D _ WD.stage (Nat.le_refl _)]
      have ho' : ConcN.OpenSt (j + 1) (cl7 (upd D j ⟨9, m₂, 0⟩)) := fun i hi => by
        rw [cl7_upd]
        by_cases e : i = j
        · subst e; rw [upd_same]; exact .inl rfl
        · rw [upd_ne _ _ e]; exact ho i (by omega)
      have hmd' : ∀ tag', isOpen (toC tag') → pend (toC tag') = 0 → (∀ vs, toC tag' ≠ .w2 vs) → Md (j + 1) (upd D j ⟨9, m₂, 0⟩) tag' (((Vc j (cl7 D) + pend (toC (.sp r 2)) : Nat) : Int) * KK) 0 := fun tag' h1 h2 h3 => by
        have e : Vc j (cl7 D) + pend (toC (.sp r 2)) = Vc (j + 1) (cl7 (upd D j ⟨9, m₂, 0⟩)) + pend (toC tag') := by rw [eV, h2]; simp [toC, pend]
        rw [e]
        exact .opn h1 ho' (fun vs ev => absurd ev (h3 vs))
      have hph' : ∀ tag', ¬ after tag' → (∀ r, tag' ≠ .sblk r) → Ph E tag' (j + 1) (upd D j ⟨9, m₂, 0⟩) := fun tag' h1 h2 => ⟨fun _ i hi hc => by
        by_cases e : i = j
        · subst e; rw [upd_same]; simp
        · rw [upd_ne D _ e]; exact hph.pre (fun h => h) i (by omega) hc, fun h => absurd h h1, fun r hr => absurd hr (h2 r)⟩
      have hend' : ∀ tag', ¬ after tag' → EndAt E.Cd (decide (after tag')) w := fun tag' h1 => by
        obtain ⟨x, y, hxy⟩ := hend
        exact ⟨x, y, by rw [hxy, decide_eq_false h1, decide_eq_false (show ¬ after (.sp r 2) from fun h => h)]⟩
      have ej : n - (r + 1) + 1 = n - r := by omega
      cases r with
      | zero =>
        obtain ⟨tag', hcs', ⟨h1, h2, h3⟩, hphi⟩ := CS.sends (n := n) (Fin := Fin) (r := E.N) (Nat.le_refl _) hnext
        rw [Nat.sub_self] at hcs'
        refine .inr ⟨_, _, (phi (E.c0 + n) E.N (Vc (j + 1) (upd D j ⟨9, m₂, 0⟩)) tag' + Ssum (j + 1) (upd D j ⟨9, m₂, 0⟩), m₃ + 2 * Fsum (j + 1) (upd D j ⟨9, m₂, 0⟩)), hrun', Prod.Lex.left _ _ ?_,
          _, w, sl, j + 1, n, 0, upd D j ⟨9, m₂, 0⟩, upd hand j none, own, tag', m₃, 0, a', _, _, rfl, ha', hcs', by omega, hco', hwg, hmd' tag' (by rw [h3]; trivial) (by rw [h3]; rfl) (by rw [h3]; simp), hph' tag' h1 h2, hend' tag' h1, rfl⟩
        have := hphi (E.c0 + n) (Vc (j + 1) (upd D j ⟨9, m₂, 0⟩))
        have e : phi (E.c0 + n) E.N (Vc j D) (.sp 0 2) = 16 * (E.c0 + n) + 8 * E.N + 32 + 16 * 0 + 2 := rfl
        omega
      | succ r' =>
        refine .inr ⟨_, _, (phi (E.c0 + n) E.N (Vc (j + 1) (upd D j ⟨9, m₂, 0⟩)) (.sp r' 5) + Ssum (j + 1) (upd D j ⟨9, m₂, 0⟩), m₃ + 2 * Fsum (j + 1) (upd D j ⟨9, m₂, 0⟩)), hrun', Prod.Lex.left _ _ (by simp only [phi]; omega),
          _, w, sl, j + 1, n - (r' + 1), 0, upd D j ⟨9, m₂, 0⟩, upd hand j none, own, .sp r' 5, m₃, 0, a', _, _, rfl, ha', .skd (by omega) hnext, by omega, hco', hwg, hmd' (.sp r' 5) trivial rfl (by simp [toC]), hph' _ (fun h => h) (by simp), hend' _ (fun h => h), rfl⟩
    · obtain ⟨a', w', es, hgo, hD, hg'⟩ := hstep w (.refl w)
      exact .inr (idleC F ha hj hco hwg hmd hph hend hgo hD (.sgo hr hg') (by omega))
  | snd hr h =>
    rename_i r
    rcases Goes.cases h with hstop | ⟨m', rfl, hstep⟩
    · exact .inr (stepSend F hr ha hj hco hwg hmd hph hend fun w₁ h₁ => (hstop w₁ h₁).2)
    · obtain ⟨a', w', es, hgo, hD, hg'⟩ := hstep w (.refl w)
      exact .inr (idleC F ha hj hco hwg hmd hph hend hgo hD (.snd hr hg') (by omega))
  | sblk _ _ => cases hrun
  | cl h =>
    rcases Goes.cases h with hstop | ⟨m', rfl, hstep⟩
    · obtain ⟨_, hmw, hall⟩ := hstop w (.refl w)
      obtain ⟨x, y, hxy⟩ := hend
      rw [decide_eq_false (show ¬ after .cl from fun h => h)] at hxy
      obtain ⟨a', hgo, hra, m₂, hk⟩ := hall x y hxy
      have hrun' := runT_crowd_go (P := P) (sl := sl) (i := 0) ha (by simpa using hgo)
      have hco' := hco.close F (a := a) (a' := a') (fn := a.frame.fn) (pos := a.frame.place) hmw hra hxy
      have hW : (w.setChan E.Cd 0 #[] true x y false).heap[E.Wg]? = w.heap[E.Wg]? := Array.getElem?_setIfInBounds_ne F.DW
      have hcd' : (w.setChan E.Cd 0 #[] true x y false).heap[E.Cd]? = some (.chan 0 #[] true x y false) := by
        simp only [World.setChan]; exact Array.getElem?_setIfInBounds_self_of_lt (Array.getElem?_eq_some_iff.1 hxy).1
      refine .inr ⟨_, _, (phi (E.c0 + n) E.N (Vc j (unpark D)) .kd + Ssum j (unpark D), m₂ + 2 * Fsum j (unpark D)), hrun', Prod.Lex.left _ _ ?_,
        _, _, sl, j, n, E.N, unpark D, hand, own, .kd, m₂, 0, a', st, sm, rfl, get_map_set_same _ _ _ (by rw [hco.size]; omega), .kd hk, hj, hco', hwg.of_block hW,
        ConcN.Mode.congr (fun a _ => cl7_unpark D a) hmd, ⟨fun h => absurd trivial h, fun _ i hi h => ?_, fun r hr => by cases hr⟩, ⟨x, y, by rw [decide_eq_true (show after .kd from trivial)]; exact hcd'⟩, rfl⟩
      · have := Ssum_unpark j D
        simp only [phi]
        omega
      · by_cases h8 : (D i).stage = 8
        · simp [unpark, h8] at h
        · simp [unpark, h8] at h
    · obtain ⟨a', w', es, hgo, hD, hg'⟩ := hstep w (.refl w)
      exact .inr (idleC F ha hj hco hwg hmd hph hend hgo hD (.cl hg') (by omega))
  | kd h =>
    rcases Goes.cases h with hstop | ⟨m', rfl, hstep⟩
    · obtain ⟨_, a', hgo, m₂, hk⟩ := hstop w (.refl w)
      exact .inr (bookC F ha hj hco hph hend hgo (.refl E.Wg w) hwg bk_dis (.anch hk) (ConcN.Mode.reopen hmd trivial trivial rfl (by simp [toC])) Iff.rfl (by simp) (by simp only [phi]; omega))
    · obtain ⟨a', w', es, hgo, hD, hg'⟩ := hstep w (.refl w)
      exact .inr (idleC F ha hj hco hwg hmd hph hend hgo hD (.kd hg') (by omega))
  | anch h =>
    rcases Goes.cases h with hstop | ⟨m', rfl, hstep⟩
    · obtain ⟨m₂, hk⟩ := hAn a w (hstop w (.refl w))
      obtain ⟨m₁, ops, μ', h1, h2, h3⟩ := stepW1 (sl := sl) F hn ha hj hco hwg (ConcN.Mode.reopen hmd trivial trivial rfl (by simp [toC])) (hph.of Iff.rfl (by simp)) hend hk
      exact .inr ⟨m₁, ops, μ', h1, lt2_trans h2 (Prod.Lex.left _ _ (by simp only [phi]; omega)), h3⟩
    · obtain ⟨a', w', es, hgo, hD, hg'⟩ := hstep w (.refl w)
      exact .inr (idleC F ha hj hco hwg hmd hph hend hgo hD (.anch hg') (by omega))
  | w1 h => exact .inr (stepW1 F hn ha hj hco hwg hmd hph hend h)
  | w2 h =>
    rename_i vs
    rcases Goes.cases h with hstop | ⟨m', rfl, hstep⟩
    · obtain ⟨_, hall⟩ := hstop w (.refl w)
      obtain ⟨ho, rfl, rfl, hw2⟩ := ConcN.Mode.open_inv hmd trivial
      obtain ⟨hle', h1⟩ := hw2 vs rfl
      obtain ⟨hhit, hmiss⟩ := hall (Vc j (cl7 D)) (by omega) (by simpa [toC, pend] using hwg)
      by_cases e : Vc j (cl7 D) = vs
      · obtain ⟨a', hgo, m₂, hk⟩ := hhit e
        exact .inr (bookC F ha hj hco hph hend hgo (aside_setCell w (stA E.Wg) _) (hwg.setSt _) bk_rw (.w3 hk) (.reg trivial ho (by omega)) Iff.rfl (by simp) (by simp only [phi]; omega))
      · obtain ⟨a', hgo, m₂, hk⟩ := hmiss e
        exact .inr (bookC F ha hj hco hph hend hgo (.refl E.Wg w) hwg bk_rd (.anch hk) (ConcN.Mode.reopen hmd trivial trivial rfl (by simp [toC])) Iff.rfl (by simp) (by simp only [phi]; omega))
    · obtain ⟨a', w', es, hgo, hD, hg'⟩ := hstep w (.refl w)
      exact .inr (idleC F ha hj hco hwg hmd hph hend hgo hD (.w2 hg') (by omega))
  | w3 h =>
    rename_i m
    rcases Goes.cases h with hstop | ⟨m', rfl, hstep⟩
    · obtain ⟨_, hof, hblk, hgoes⟩ := hstop w (.refl w)
      have down : ∀ st, WgAt E.ty E.Wg w st 0 → Md j D .blk st 0 →
          ∃ m₁ ops μ', runT P (crowd gs w sl) 0 = (.next m₁, ops) ∧ Lt2 μ' (phi (E.c0 + n) E.N (Vc j D) .w3 + Ssum j D, m + 1 + 2 * Fsum j D) ∧ Inv P E n Fin Anch μ' m₁ (T ++ ops) := fun st' hw' hm' => by
        have hgo := hblk ⟨st', hw'⟩
        exact callStep F ha hj hco hgo (.refl w) (by simp [MemOp.ofEvents]) (by simp) rfl hco.chp (.blk hstop) hw' hm' (hph.of Iff.rfl (by simp)) hend (.inr ⟨rfl, by omega⟩)
      refine .inr ?_
      unfold Md at hmd
      cases hmd with
      | opn h1 _ _ => exact h1.elim
      | reg _ h2 h3 => exact down _ hwg (.reg trivial h2 h3)
      | last L _ h2 h3 h4 => exact down _ hwg (.last L trivial h2 h3 h4)
      | sema h2 =>
        obtain ⟨a', hgo, m₂, hk⟩ := hgoes hwg
        exact bookC F ha hj hco hph hend hgo (aside_setCell w (smA E.Wg) _) (hwg.setSm 0) bk_sem (.w4 hk) (.fin trivial h2) Iff.rfl (by simp) (by simp only [phi]; omega)
      | fin h1 _ => exact h1.elim
    · obtain ⟨a', w', es, hgo, hD, hg'⟩ := hstep w (.refl w)
      exact .inr (idleC F ha hj hco hwg hmd hph hend hgo hD (.w3 hg') (by omega))
  | blk _ => cases hrun
  | w4 h =>
    rcases Goes.cases h with hstop | ⟨m', rfl, hstep⟩
    · obtain ⟨_, hx⟩ := hstop w (.refl w)
      obtain ⟨hq, rfl, rfl⟩ := ConcN.Mode.fin_inv hmd trivial
      obtain ⟨a', hgo, m₂, hk⟩ := hx hwg
      exact .inr (bookC F ha hj hco hph hend hgo (.refl E.Wg w) hwg bk_rd (.ke hk) (.fin trivial hq) Iff.rfl (by simp) (by simp only [phi]; omega))
    · obtain ⟨a', w', es, hgo, hD, hg'⟩ := hstep w (.refl w)
      exact .inr (idleC F ha hj hco hwg hmd hph hend hgo hD (.w4 hg') (by omega))
  | ke h =>
    rcases Goes.cases h with hstop | ⟨m', rfl, hstep⟩
    · obtain ⟨_, a', hgo, m₂, hk⟩ := hstop w (.refl w)
      obtain ⟨hq, rfl, rfl⟩ := ConcN.Mode.fin_inv hmd trivial
      exact .inr (bookC F ha hj hco hph hend hgo (.refl E.Wg w) hwg bk_en (.acq hk) (.fin trivial hq) Iff.rfl (by simp) (by simp only [phi]; omega))
    · obtain ⟨a', w', es, hgo, hD, hg'⟩ := hstep w (.refl w)
      exact .inr (idleC F ha hj hco hwg hmd hph hend hgo hD (.ke hg') (by omega))
  | acq h =>
    rcases Goes.cases h with hstop | ⟨m', rfl, hstep⟩
    · obtain ⟨_, a', hgo, hra, hfin⟩ := hstop w (.refl w)
      obtain ⟨hq, rfl, rfl⟩ := ConcN.Mode.fin_inv hmd trivial
      have h1 : ∀ i, i < j → (D i).stage = 1 := fun i hi => by
        have := hq i hi
        simp only [cl7] at this
        omega
      have hrun' := runT_crowd_go (P := P) (sl := sl) (i := 0) ha (by simpa using hgo)
      have hco' := hco.call F (a := a) (a' := a') (fn := a.frame.fn) (pos := a.frame.place) (es := #[mk (.acquire (stA E.Wg))]) (.refl w) (okP_mark F.W rfl) (by intro e he; rw [Array.mem_singleton] at he; subst he; simp [mk]) rfl hco.chp (fun i hi h8 => by rw [h1 i hi] at h8; cases h8)
      have eops : MemOp.ofEvents 0 a.frame.fn a.frame.place #[mk (.acquire (stA E.Wg))] = #[{ g := 0, fn := a.frame.fn, pos := a.frame.place, act := .mark (.acquire (stA E.Wg)) }] := by rw [ofEvents_eq]; simp [ofEvent_mk]
      have hd' : deafBehind 0 #[mk (.acquire (stA E.Wg))] = 0 := rfl
      rw [hd'] at hco'
      refine .inl ⟨_, _, hrun', _, a', w, sl, fun i => (D (i - 1)).fuel, rfl, by simp [hco.size]; omega, get_map_set_same _ _ _ (by rw [hco.size]; omega), hra, hfin w (.refl w), ⟨fun i g hi hg => ?_, fun i hi => hco'.above i (by simp [hco.size] at hi; omega)⟩, hco'.pt.past ?_ hco'.norel hco'.deaf0, ?_⟩
      · obtain ⟨i, rfl⟩ : ∃ i', i = i' + 1 := ⟨i - 1, by omega⟩
        rcases hco'.get hg with h0 | ⟨i', r, e, hi', _, hw⟩
        · omega
        · obtain rfl : i = i' := by omega
          rw [hco'.deafW i hi']
          generalize hst : (D i).stage = s at hw
          have hs1 := h1 i hi'
          rw [hst] at hs1
          subst hs1
          generalize hand i = o at hw
          generalize hfu : (D i).fuel = m at hw
          generalize (D i).deaf = dd at hw
          cases hw with
          | quit hq' => simp only [Nat.add_sub_cancel, hfu]; exact hq'
      · refine ⟨T.size, by rw [eops]; simp [Trace.act?], by rw [eops]; simp [Trace.g?], ⟨0, by rw [eops]; simp [Trace.g?], by rw [deaf_old (Nat.le_refl _)]; exact hco.deaf0⟩, fun g hg1 hg2 => ?_⟩
        obtain ⟨i, rfl⟩ : ∃ i, g = i + 1 := ⟨g - 1, by have := F.c0; omega⟩
        obtain ⟨r, hr⟩ := hco.rel i (by omega) hg1 (by rw [h1 i (by omega)]; omega)
        exact ⟨r, hr.appOther g_of_ofEvents (by omega), lt_of_act? hr.act⟩
      · obtain ⟨arr, h2, h3, h4⟩ := hco.wrote
        refine ⟨arr, h2, h3, fun k hk => ?_⟩
        rcases h4 k hk with ⟨i, hi, hh⟩ | hh
        · obtain ⟨x, r, _, _, hw⟩ := hco.wk i hi
          rw [h1 i hi, hh] at hw
          cases hw
        · exact hh
    · obtain ⟨a', w', es, hgo, hD, hg'⟩ := hstep w (.refl w)
      exact .inr (idleC F ha hj hco hwg hmd hph hend hgo hD (.acq hg') (by omega))
end
end Pool
end Go.Proofs.Ytjehmdhcccmihaa
/-
  A pool of workers and its caller: ON WHATEVER TAPE the phase comes to its end: nobody waits for ever, nothing races, all is written and handed over.
-/
namespace Go.Proofs.Ytjehmdhcccmihaa
open Go.Conc Go.ConcN
open Go.ConcR (KK wgBlock WgAt stA smA rd wr mk Payload Aside2 DC0 Bk g_of_ofEvents)
namespace Pool

section
variable [Payload] {P : Program} {E : Cfg} {n : Nat} {Fin Anch : Goroutine → World → Prop} {tag : Tag} {jn j K f d0 : Nat} {a : Goroutine} {w w' : World}
  {gs : Array Goroutine} {sl : Option (Nat × Nat)} {T : Trace} {D : Nat → WD} {hand : Nat → Option Nat} {own : Nat → Nat} {st sm : Int}

theorem Co.running (hco : Co P E gs w T j K D hand own d0) {i : Nat} (hi : i < j) (h1 : (D i).stage ≠ 1) (h8 : (D i).stage ≠ 8) : ∃ (i : Nat) (g : Goroutine), gs[i]? = some g ∧ g.status = .running := by
  obtain ⟨x, r, hx, _, hw⟩ := hco.wk i hi
  rcases hw.status with ⟨h, _⟩ | ⟨h, _⟩ | ⟨_, _, h⟩
  · exact absurd h h8
  · exact absurd h h1
  · exact ⟨i + 1, x, hx, h⟩

/-- NO DEADLOCK. -/
theorem someone (hAr : ∀ g w, Anch g w → g.status = .running) (hN : 0 < E.N → 0 < n) (hc0 : 0 < E.c0) (ha : gs[0]? = some a) (hcs : CS P E n Fin Anch tag jn K f d0 a w) (hj : j + 1 = E.c0 + jn) (hco : Co P E gs w T j K D hand own d0) (hmd : Md j D tag st sm) (hph : Ph E tag j D) :
    ∃ (i : Nat) (g : Goroutine), gs[i]? = some g ∧ g.status = .running := by
  rcases hcs.status hAr with ⟨hs, _⟩ | ⟨r, g, rfl, _⟩ | ⟨_, rfl⟩
  · exact ⟨0, a, ha, hs⟩
  · cases hcs with
    | sblk hr _ =>
      have hi : E.c0 - 1 < j := by have := hN (by omega); omega
      have h8 := hph.pre (fun h => h) (E.c0 - 1) hi (by omega)
      exact hco.running hi (by omega) (hph.blk r rfl _ hi)
  · unfold Md at hmd
    cases hmd with
    | opn h1 _ _ => exact h1.elim
    | reg _ _ h3 =>
      obtain ⟨i, hi, h5⟩ := exists_counted h3
      simp only [cl7] at h5
      exact hco.running hi (by omega) (hph.post trivial i hi)
    | last L _ h2 h3 _ =>
      simp only [cl7] at h3
      exact hco.running h2 (by omega) (hph.post trivial L h2)
    | fin h1 _ => exact h1.elim

theorem all_awake' (hAr : ∀ g w, Anch g w → g.status = .running) (ha : gs[0]? = some a) (hcs : CS P E n Fin Anch tag jn K f d0 a w) (hco : Co P E gs w T j K D hand own d0) : ∀ g ∈ gs, awake g := by
  intro g hg tm
  obtain ⟨i, hi⟩ := Array.mem_iff_getElem?.1 hg
  rcases hco.get hi with rfl | ⟨i, r, rfl, _, _, hw⟩
  · rw [ha] at hi; cases hi
    rcases hcs.status hAr with ⟨hs, _⟩ | ⟨r, g, _, rfl⟩ | ⟨hs, _⟩
    · rw [hs]; simp
    · simp [parked]
    · rw [hs]; simp
  · rcases hw.status with ⟨_, g₁, _, rfl⟩ | ⟨_, h | h⟩ | ⟨_, _, h⟩
    · simp [parked]
    · rw [h]; simp
    · rw [h]; simp
    · rw [h]; simp

theorem Co.at (F : E.Fit) (hco : Co P E gs w T j K D hand own d0) (d : Nat) : Co P E gs (w.at d) T j K D hand own d0 :=
  ⟨hco.size, fun i hi => let ⟨x, r, h1, h2, h3⟩ := hco.wk i hi; ⟨x, r, h1, h2, h3.rely F (RP.at w d)⟩, hco.old, hco.pt, hco.norel, hco.deaf0, hco.deafW, hco.above, hco.rel, hco.wrote, hco.hnd, hco.chp⟩

/-- ONE STEP OF THE MACHINE. -/
theorem pool_step (F : E.Fit) (hn : E.c0 + n < 2147483647) (hN : 0 < E.N → 0 < n) (hAr : ∀ g w, Anch g w → g.status = .running) (hAn : ∀ g w, Anch g w → ∃ m, GoC P E (AtW1 P E Fin Anch) m g w) :
    ∀ μ m T, Inv P E n Fin Anch μ m T → (∃ m' ops, stepT P m = (.next m', ops) ∧ Done P E n Fin m' (T ++ ops)) ∨ (∃ m' ops μ', stepT P m = (.next m', ops) ∧ Lt2 μ' μ ∧ Inv P E n Fin Anch μ' m' (T ++ ops)) := by
  rintro μ m T ⟨gs, w, sl, j, jn, K, D, hand, own, tag, f0, d0, a, st, sm, rfl, ha, hcs, hj, hco, hwg, hmd, hph, hend, rfl⟩
  obtain ⟨i, g, d, sl', hg, hrun, hstep⟩ := crowd_pick (P := P) (w := w) (sl := sl) (all_awake' hAr ha hcs hco) (someone hAr hN F.c0 ha hcs hj hco hmd hph)
  rw [hstep]
  have hcs' := hcs.rely (RP.at w d)
  have hco' := hco.at F d
  cases i with
  | zero =>
    rw [ha] at hg; cases hg
    exact stepCall (sl := sl') F hn hAn ha hcs' hj hco' hwg hmd hph hend hrun
  | succ i =>
    have hi : i < j := by have := (Array.getElem?_eq_some_iff.1 hg).1; rw [hco.size] at this; omega
    exact .inr (stepWork (sl := sl') F hAr hn ha hcs' hj hco' hwg hmd hph hend hi hg hrun)

theorem pool_runs (F : E.Fit) (hn : E.c0 + n < 2147483647) (hN : 0 < E.N → 0 < n) (hAr : ∀ g w, Anch g w → g.status = .running) (hAn : ∀ g w, Anch g w → ∃ m, GoC P E (AtW1 P E Fin Anch) m g w) :
    ∀ (μ : Nat × Nat) (m : Machine) (T : Trace), Inv P E n Fin Anch μ m T → ∃ k M T', runNT P k m T = (.next M, T') ∧ Done P E n Fin M T' := by
  intro μ
  induction μ using (Prod.lex Nat.lt_wfRel Nat.lt_wfRel).wf.induction with
  | _ μ ih =>
    intro m T hI
    rcases pool_step F hn hN hAr hAn μ m T hI with ⟨m', ops, hs, hd⟩ | ⟨m', ops, μ', hs, hlt, hI'⟩
    · exact ⟨1, m', T ++ ops, by simp [runNT, hs], hd⟩
    · obtain ⟨k, M, T', hr, hd⟩ := ih μ' hlt m' (T ++ ops) hI'
      exact ⟨k + 1, M, T', by rw [runNT_succ_next hs]; exact hr, hd⟩

open Classical in
/-- ████ THE PHASE: from a frame in which all others only leave to such a frame again, on whatever tape. ████ -/
theorem pool_phase (F : E.Fit) (hn : E.c0 + n < 2147483647) (hN : 0 < E.N → 0 < n) (hN0 : n = 0 → E.N = 0) (hAr : ∀ g w, Anch g w → g.status = .running) (hAn : ∀ g w, Anch g w → ∃ m, GoC P E (AtW1 P E Fin Anch) m g w)
    {q : Nat → Nat} {B m : Nat} (hsz : gs.size = E.c0) (h0 : gs[0]? = some a) (hL : Leavers P T gs q) (hP : Past E.Shun B T) (hB : B ≤ E.Bd) (hlow : ∀ i a x, touchAt T i = some a → a.loc = .cell x → x.block ≠ E.Wg ∧ x.block ≠ E.C) (hnr : NoRelease (stA E.Wg) T) (hn0 : E.n0 = T.size)
    (hmade : MadeOk E w) (hwg : WgAt E.ty E.Wg w 0 0) (hcp : OpenAt E.Cp w) (hcd : OpenAt E.Cd w) (hgo : GoC P E (SpawnsT P E Anch n) m a w) :
    ∃ k M T', runNT P k (crowd gs w sl) T = (.next M, T') ∧ Done P E n Fin M T' := by
  have hc0 := F.c0
  obtain ⟨j, hj⟩ : ∃ j, j + 1 = E.c0 := ⟨E.c0 - 1, by omega⟩
  obtain ⟨D, hD⟩ : ∃ D : Nat → WD, D = fun i => ⟨1, q (i + 1), Deaf T (i + 1)⟩ := ⟨_, rfl⟩
  have hD1 : ∀ i, (D i).stage = 1 := fun i => by rw [hD]
  have hV : Vc j (cl7 D) = 0 := by
    rw [Vc_cl7]
    have : ∀ i, i < j → cnt (D i) ≤ 0 := fun i _ => by simp [cnt, hD1]
    have := sumTo_le (f := fun i => cnt (D i)) (c := 0) this
    simp only [Vc]; omega
  have hco : Co P E gs w T j 0 D (fun _ => none) (fun _ => 0) 0 := by
    refine ⟨by omega, fun i hi => ?_, fun i _ _ => hD1 i, ?_, fun i hi => ?_, hP.hears, fun i hi => by rw [hD], fun g hg => hL.above g (by omega), fun i hi hc => by omega, let ⟨arr, h1, h2⟩ := hmade; ⟨arr, h1, h2, fun k hk => by omega⟩, fun i hi k hk => (by cases hk), hcp⟩
    · have hlt : i + 1 < gs.size := by omega
      refine ⟨gs[i + 1], E.N, Array.getElem?_eq_getElem hlt, by omega, ?_⟩
      rw [hD]
      exact .quit (hL.old (i + 1) _ (by omega) (Array.getElem?_eq_getElem hlt))
    · rw [hn0]; exact PT.begin hP hB hlow (by omega)
    · exact hnr i hi
  have hph : ∀ tag, (∀ r, tag ≠ .sblk r) → Ph E tag j D := fun tag h => ⟨fun _ i hi hc => by omega, fun _ i _ => by rw [hD1]; omega, fun r hr => absurd hr (h r)⟩
  have hmd : ∀ tag, isOpen (toC tag) → pend (toC tag) = 0 → (∀ vs, toC tag ≠ .w2 vs) → Md j D tag 0 0 := fun tag h1 h2 h3 => by
    have := ConcN.Mode.opn (j := j) (D := cl7 D) h1 (fun i hi => by simp [cl7, hD1]) (fun vs e => absurd e (h3 vs))
    rw [hV, h2] at this
    simpa using this
  have hend : ∀ tag, ¬ after tag → EndAt E.Cd (decide (after tag)) w := fun tag h => by
    obtain ⟨x, y, hxy⟩ := hcd
    exact ⟨x, y, by rw [hxy, decide_eq_false h]⟩
  have hI : ∃ μ, Inv P E n Fin Anch μ (crowd gs w sl) T := by
    cases n with
    | zero =>
      have e0 := hN0 rfl
      obtain ⟨tag', hcs', ⟨h1, h2, h3⟩, _⟩ := CS.sends (n := 0) (Fin := Fin) (r := E.N) (Nat.le_refl _) hgo
      rw [Nat.sub_self] at hcs'
      exact ⟨_, gs, w, sl, j, 0, 0, D, _, _, tag', m, 0, a, 0, 0, rfl, h0, hcs', by omega, hco, hwg, hmd tag' (by rw [h3]; trivial) (by rw [h3]; rfl) (by rw [h3]; simp), hph tag' h2, hend tag' h1, rfl⟩
    | succ r =>
      have hc := CS.skd (Fin := Fin) (Nat.lt_succ_self r) hgo
      rw [Nat.sub_self] at hc
      exact ⟨_, gs, w, sl, j, 0, 0, D, _, _, .sp r 5, m, 0, a, 0, 0, rfl, h0, hc, by omega, hco, hwg, hmd _ trivial rfl (by simp [toC]), hph _ (by simp), hend _ (fun h => h), rfl⟩
  obtain ⟨μ, hI⟩ := hI
  exact pool_runs F hn hN hAr hAn μ _ _ hI

end
end Pool
end Go.Proofs.Ytjehmdhcccmihaa
