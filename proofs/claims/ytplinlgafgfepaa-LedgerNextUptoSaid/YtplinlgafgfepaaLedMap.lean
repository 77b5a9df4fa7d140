/-
  The program's page: how what its map holds is told by the list of dues; what lies in memory.
-/
import Derived.Test.YtplinlgafgfepaaLedMem
import Derived.Maps.OwnSet
import Derived.Maps.RangeWalk
import Derived.Sort.KeysCollected
namespace Go.Proofs.Ytplinlgafgfepaa.Ld
open Go.RowKit Go.Maps Pr

abbrev Dt := DataW Value
/-- an element reads as itself -/
def elem (v : Value) : Option (Dt × List MemPlace) := some (.held v, [])
theorem elem_inv {v : Value} {y : Dt × List MemPlace} (h : elem v = some y) : y = (.held v, []) := by
  unfold elem at h
  exact (Option.some.inj h).symm
def klit (z : Int) : Lit := .int .i64 z
theorem klit_inj {a b : Int} (h : klit a = klit b) : a = b := by
  unfold klit at h
  injection h
theorem klit_wf {z : Int} (h : I64 z) : (Lit.int .i64 z).wf = true := by
  obtain ⟨h1, h2⟩ := h
  simp only [Lit.wf, show IntKind.i64.min = -9223372036854775808 from rfl, show IntKind.i64.max = 9223372036854775807 from rfl, Bool.and_eq_true, decide_eq_true_eq]
  omega
theorem key_of {z : Int} (h : I64 z) : keyOf Try.prog 3 (.int .i64 z) = some (klit z) := Go.Maps.keyOf_int_mk Try.underlying3 (klit_wf h)
theorem klaw : Keyed Try.prog 3 := int_keyed Try.underlying3
theorem klit_key {z : Int} (h : I64 z) : WideAt.IsKeyLit (klit z) := klaw.key (key_of h)
theorem same_klit {k : Lit} {z : Int} : k.sameKey (klit z) = true ↔ k = klit z := by
  constructor
  · intro h
    cases k <;> simp [klit, Lit.sameKey] at h
    obtain ⟨rfl, rfl⟩ := h
    rfl
  · rintro rfl
    simp [klit, Lit.sameKey]

/-- a due as it is written down, its limits in block g -/
def sval (x : Du (List Lim)) (g : Nat) : Value := .agg #[.int .i64 (x.1 : Nat), .int .i64 (x.2.1 : Nat), .slice (la g x.2.2.length) x.2.2.length x.2.2.length]

/-- the map's datum tells the list's numbers, each with its due -/
structure Reads (D : Dt) (L : LL (List Lim)) (bl : Nat → Nat) : Prop where
  has : ∀ z : Int, Maps.has D (klit z) = true ↔ ∃ x ∈ L, (x.1 : Int) = z
  at_ : ∀ x ∈ L, ∀ z, D.atKey (klit x.1) z = .held (sval x (bl x.1))
theorem Reads.nil : Reads (.map []) [] (fun _ => 0) := ⟨fun k => by simp [Maps.has_eq], fun x h => by cases h⟩
theorem Reads.del {D : Dt} {L L' : LL (List Lim)} {bl : Nat → Nat} (h : Reads D L bl) (key : Int) (hs : ∀ x, x ∈ L' ↔ x ∈ L ∧ ¬ (x.1 : Int) = key) : Reads (D.del (klit key)) L' bl := by
  refine ⟨fun k => ?_, fun x hx z => ?_⟩
  · by_cases e : k = key
    · subst e
      simp only [Maps.has_del_same, Bool.false_eq_true, false_iff, not_exists, not_and]
      intro x hx
      exact ((hs x).1 hx).2
    · rw [Maps.has_del_other (fun e2 => e (klit_inj e2)), h.has k]
      constructor
      · rintro ⟨x, hx, rfl⟩
        exact ⟨x, (hs x).2 ⟨hx, e⟩, rfl⟩
      · rintro ⟨x, hx, rfl⟩
        exact ⟨x, ((hs x).1 hx).1, rfl⟩
  · obtain ⟨h1, h2⟩ := (hs x).1 hx
    rw [Maps.atKey_del_other (fun e2 => h2 (klit_inj e2))]
    exact h.at_ x h1 z
theorem Reads.put {D : Dt} {L L' : LL (List Lim)} {bl bl' : Nat → Nat} (h : Reads D L bl) (hD : IsMap D) {y : Du (List Lim)} (hk : I64 y.1) (hn : ∀ x ∈ L, x.1 ≠ y.1) (hs : ∀ x, x ∈ L' ↔ x ∈ L ∨ x = y) (hb : ∀ x ∈ L, bl' x.1 = bl x.1) :
    Reads (D.put (klit y.1) (.held (sval y (bl' y.1)))) L' bl' := by
  refine ⟨fun k => ?_, fun x hx z => ?_⟩
  · by_cases e : k = y.1
    · subst e
      simp only [Maps.has_put_same hD (klit_key hk), true_iff]
      exact ⟨y, (hs y).2 (.inr rfl), rfl⟩
    · rw [Maps.has_put_other (fun e2 => e (klit_inj e2)), h.has k]
      constructor
      · rintro ⟨x, hx, rfl⟩
        exact ⟨x, (hs x).2 (.inl hx), rfl⟩
      · rintro ⟨x, hx, rfl⟩
        rcases (hs x).1 hx with hx | rfl
        · exact ⟨x, hx, rfl⟩
        · exact absurd rfl e
  · rcases (hs x).1 hx with hx | rfl
    · rw [Maps.atKey_put_other (fun e2 => hn x hx (by have := klit_inj e2; omega)), hb x hx]
      exact h.at_ x hx z
    · rw [Maps.atKey_put_same hD (klit_key hk)]

theorem size_is {w : World} {b n : Nat} {D : Dt} {L : LL (List Lim)} {bl : Nat → Nat} (hown : w.ownsMap Try.prog 3 elem b n D) (r : Reads D L bl) (g : L.Pairwise (·.1 < ·.1)) : Maps.size D = L.length := by
  obtain ⟨es, rfl, hpw, _⟩ := hown.entries klaw
  obtain ⟨es', e, hko⟩ := hown.keysOf
  obtain rfl : es = es' := by simpa using e
  have hp : (es.map fun p => p.1).Perm (L.map fun x => klit (x.1 : Int)) := by
    refine (List.perm_ext_iff_of_nodup (List.pairwise_map.2 hpw) (List.pairwise_map.2 (g.imp fun h e => by have := klit_inj e; omega))).2 fun k => ?_
    constructor
    · intro hk
      obtain ⟨p, hp, rfl⟩ := List.mem_map.1 hk
      obtain ⟨v, hv⟩ := hko p hp
      obtain ⟨z, _, hz, _⟩ := Maps.keyOf_int_inv Try.underlying3 hv
      have h1 : Maps.has (.map es : Dt) (klit z) = true := by
        rw [Maps.has_eq]
        exact List.any_eq_true.2 ⟨p, hp, same_klit.2 hz⟩
      obtain ⟨x, hx, e⟩ := (r.has z).1 h1
      exact List.mem_map.2 ⟨x, hx, by rw [e, hz]; rfl⟩
    · intro hk
      obtain ⟨x, hx, rfl⟩ := List.mem_map.1 hk
      have h := (r.has x.1).2 ⟨x, hx, rfl⟩
      rw [Maps.has_eq] at h
      obtain ⟨p, hp, hs⟩ := List.any_eq_true.1 h
      exact List.mem_map.2 ⟨p, hp, same_klit.1 hs⟩
  simpa [Maps.size_eq] using hp.length_eq
theorem tight {w : World} {b n : Nat} {D : Dt} {L : LL (List Lim)} {bl : Nat → Nat} (hown : w.ownsMap Try.prog 3 elem b n D) (r : Reads D L bl) (g : L.Pairwise (·.1 < ·.1)) : w.ownsMap Try.prog 3 elem b L.length D := by
  rw [← size_is hown r g]
  obtain ⟨es, clock, hb, F, hs, rfl⟩ := hown
  exact ⟨es, clock, hb, F, by simp [Maps.size, length_sorted], rfl⟩
theorem ownsMap_eq {w w' : World} {b n : Nat} {D : Dt} (h : w.ownsMap Try.prog 3 elem b n D) (e : w'.heap[b]? = w.heap[b]?) : w'.ownsMap Try.prog 3 elem b n D := by
  obtain ⟨es, clock, hb, r⟩ := h
  exact ⟨es, clock, e.trans hb, r⟩
theorem ownsMap_blk {w : World} {b n : Nat} {D : Dt} (h : w.ownsMap Try.prog 3 elem b n D) {cs : Array Value} {t : TypeId} {fr : Nat × Nat} {g : Nat} (hg : w.heap[g]? = some (.cells cs t fr)) : g ≠ b := fun e => by
  obtain ⟨es, clock, hb, _⟩ := h
  rw [← e, hg] at hb
  cases hb

/-- what lies in memory: the ledger, its page, the map, each due's limits -/
structure In (w : World) (own : List Nat) (v p m last : Nat) (L : LL (List Lim)) (bl : Nat → Nat) (rs : List Nat) (D : Dt) : Prop where
  good : Good last L
  top : last ≤ 4611686018427387904
  fits : ∀ x ∈ L, x.2.2.length ≤ 1048576
  all : own = v :: p :: m :: rs
  boxV : Box w v 70 #[.pointer (some ⟨p, 0, none⟩)]
  boxP : Box w p 68 #[.int .i64 (last : Nat), .map (some m)]
  map : w.ownsMap Try.prog 3 elem m L.length D
  reads : Reads D L bl
  lims : ∀ x ∈ L, x.2.2 ≠ [] → bl x.1 ∈ rs ∧ LBlk w (bl x.1) x.2.2
  ro : ∀ r ∈ rs, Ro w r
def At (w : World) (own : List Nat) (v last : Nat) (L : LL (List Lim)) : Prop := ∃ p m bl rs D, In w own v p m last L bl rs D

section
variable {w w' : World} {own : List Nat} {v p m last : Nat} {L : LL (List Lim)} {bl : Nat → Nat} {rs : List Nat} {D : Dt}
theorem In.old (h : In w own v p m last L bl rs D) : ∀ x ∈ own, x < w.heap.size := fun x hx => by
  rw [h.all] at hx
  simp only [List.mem_cons] at hx
  rcases hx with rfl | rfl | rfl | hx
  · exact h.boxV.lt
  · exact h.boxP.lt
  · exact h.map.lt
  · exact (h.ro x hx).lt
theorem In.mv (h : In w own v p m last L bl rs D) : v ∈ own := by rw [h.all]; simp
theorem In.mp (h : In w own v p m last L bl rs D) : p ∈ own := by rw [h.all]; simp
theorem In.mm (h : In w own v p m last L bl rs D) : m ∈ own := by rw [h.all]; simp
theorem In.mr (h : In w own v p m last L bl rs D) {r : Nat} (hr : r ∈ rs) : r ∈ own := by rw [h.all]; simp [hr]
theorem In.nvm (h : In w own v p m last L bl rs D) : v ≠ m := ownsMap_blk h.map h.boxV
theorem In.npm (h : In w own v p m last L bl rs D) : p ≠ m := ownsMap_blk h.map h.boxP
theorem In.nvp (h : In w own v p m last L bl rs D) : v ≠ p := fun e => by
  have h1 := h.boxV
  rw [e] at h1
  have h2 : w.heap[p]? = _ := h1
  rw [show w.heap[p]? = _ from h.boxP] at h2
  simp at h2
theorem In.nrm (h : In w own v p m last L bl rs D) {r : Nat} (hr : r ∈ rs) : r ≠ m := by
  obtain ⟨cur, fz, h1⟩ := h.ro r hr
  exact ownsMap_blk h.map h1
theorem In.nrp (h : In w own v p m last L bl rs D) {r : Nat} (hr : r ∈ rs) : r ≠ p := fun e => by
  obtain ⟨cur, fz, h1⟩ := h.ro r hr
  rw [e, show w.heap[p]? = _ from h.boxP] at h1
  simp at h1
theorem In.nrv (h : In w own v p m last L bl rs D) {r : Nat} (hr : r ∈ rs) : r ≠ v := fun e => by
  obtain ⟨cur, fz, h1⟩ := h.ro r hr
  rw [e, show w.heap[v]? = _ from h.boxV] at h1
  simp at h1
/-- all its blocks as they were -/
theorem In.same (h : In w own v p m last L bl rs D) (hs : ∀ x ∈ own, w'.heap[x]? = w.heap[x]?) : In w' own v p m last L bl rs D where
  good := h.good
  top := h.top
  fits := h.fits
  all := h.all
  boxV := (hs v h.mv).trans h.boxV
  boxP := (hs p h.mp).trans h.boxP
  map := ownsMap_eq h.map (hs m h.mm)
  reads := h.reads
  lims x hx h0 := by
    obtain ⟨h1, h2⟩ := h.lims x hx h0
    exact ⟨h1, h2.of (hs _ (h.mr h1))⟩
  ro r hr := (h.ro r hr).of (hs r (h.mr hr))
theorem In.keep {o2 : List Nat} (h : In w own v p m last L bl rs D) (k : Only o2 w w') (hs : ∀ x ∈ own, x ∈ o2 → w'.heap[x]? = w.heap[x]?) : In w' own v p m last L bl rs D :=
  h.same fun x hx => if hc : x ∈ o2 then hs x hx hc else k.block x (h.old x hx) hc
theorem In.below (h : In w own v p m last L bl rs D) (hb : Below w.heap.size w w') : In w' own v p m last L bl rs D := h.same fun x hx => hb.block x (h.old x hx)
theorem In.vc (h : In w own v p m last L bl rs D) : w.cell? ⟨v, 0, none⟩ = some (.pointer (some ⟨p, 0, none⟩)) := h.boxV.cell 0
theorem In.lc (h : In w own v p m last L bl rs D) : w.cell? ⟨p, 0, none⟩ = some (.int .i64 (last : Nat)) := h.boxP.cell 0
theorem In.mc (h : In w own v p m last L bl rs D) : w.cell? ⟨p, 1, none⟩ = some (.map (some m)) := h.boxP.cell 1
theorem In.ids (h : In w own v p m last L bl rs D) {x : Du (List Lim)} (hx : x ∈ L) : I64 (x.1 : Int) := by
  have := h.good.fits x hx
  have := h.top
  unfold I64
  omega
/-- some dues are taken away -/
theorem In.fewer (h : In w own v p m last L bl rs D) {L' : LL (List Lim)} {D' : Dt} {n : Nat} (hs : L'.Sublist L) (k : Only [m] w w') (hm : w'.ownsMap Try.prog 3 elem m n D') (hr : Reads D' L' bl) : In w' own v p m last L' bl rs D' where
  good := ⟨List.Pairwise.sublist hs h.good.rise, fun x hx => h.good.fits x (hs.subset hx), Nat.le_trans hs.length_le h.good.few⟩
  top := h.top
  fits x hx := h.fits x (hs.subset hx)
  all := h.all
  boxV := (k.block v (h.old v h.mv) (by simp; exact h.nvm)).trans h.boxV
  boxP := (k.block p (h.old p h.mp) (by simp; exact h.npm)).trans h.boxP
  map := tight hm hr (List.Pairwise.sublist hs h.good.rise)
  reads := hr
  lims x hx h0 := by
    obtain ⟨h1, h2⟩ := h.lims x (hs.subset hx) h0
    exact ⟨h1, h2.of (k.block _ h2.lt (by simp; exact h.nrm h1))⟩
  ro r hr := (h.ro r hr).of (k.block _ (h.ro r hr).lt (by simp; exact h.nrm hr))
theorem In.kept_m (h : In w own v p m last L bl rs D) (k : Only [m] w w') : Kept own w own w' :=
  ⟨k.mono fun x hx => .inl (by simp at hx; subst hx; exact h.mm), fun x hx => .inl hx, fun x hx hr => by
    rw [h.all] at hx
    refine k.block x hr.lt ?_
    simp only [List.mem_singleton]
    obtain ⟨cur, fz, h1⟩ := hr
    exact ownsMap_blk h.map h1⟩
end
theorem turned_only {w w' : World} {b : Nat} (h : w.mapTurned w' b) : Only [b] w w' := (Only.refl _ _).grown h.grown (fun k hk => by cases hk; exact .inl (by simp))
end Go.Proofs.Ytplinlgafgfepaa.Ld
