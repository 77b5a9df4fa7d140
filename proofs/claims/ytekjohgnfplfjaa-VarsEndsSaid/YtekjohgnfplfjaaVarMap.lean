/-
  The program's map of keys: how what it holds is told by the list of keys, numbers and ends.
-/
import Derived.Test.YtekjohgnfplfjaaVarVC
import Derived.Maps.OwnSet
import Derived.Maps.RangeWalk
import Derived.Sort.KeysCollected
namespace Go.Proofs.Ytekjohgnfplfjaa.Va
open Go.RowKit Go.Maps
open Go.Proofs (encStr)

abbrev Dt := DataW Unit
def ptr : Option Nat → Value
  | none => .pointer none
  | some p => .pointer (some ⟨p, 0, none⟩)
def code : Option Nat → Int
  | none => -1
  | some p => (p : Nat)
theorem code_some {c : Option Nat} {p : Nat} (h : code c = (p : Nat)) : c = some p := by
  cases c with
  | none => simp only [code] at h; omega
  | some q => simp only [code] at h; congr 1; omega
def ptrElem : Value → Option (Dt × List MemPlace)
  | .pointer none => some (.lit (.int .i64 (-1)), [])
  | .pointer (some ⟨p, 0, none⟩) => some (.lit (.int .i64 (p : Nat)), [])
  | _ => none
theorem ptrElem_mk (c : Option Nat) : ptrElem (ptr c) = some (.lit (.int .i64 (code c)), []) := by cases c <;> rfl
theorem ptrElem_inv {v : Value} {y : Dt × List MemPlace} (h : ptrElem v = some y) : ∃ c, v = ptr c ∧ y = (.lit (.int .i64 (code c)), []) := by
  unfold ptrElem at h
  split at h
  · cases h; exact ⟨none, rfl, rfl⟩
  · cases h; exact ⟨some _, rfl, rfl⟩
  · cases h

def keyLit (k : ByteArray) : Lit := .string k.data.toList
theorem keyLit_inj {a b : ByteArray} (h : keyLit a = keyLit b) : a = b := by
  unfold keyLit at h
  exact ba_ext (Lit.string.inj h)
theorem key_of {k : ByteArray} (h : k.size ≤ maxLen) : keyOf Try.prog 9 (.string k) = some (keyLit k) := WideMaps.keyOf_string_mk Try.underlying9 h
theorem law : Keyed Try.prog 9 := string_keyed Try.underlying9
theorem keyLit_key {k : ByteArray} (h : k.size ≤ maxLen) : WideAt.IsKeyLit (keyLit k) := law.key (key_of h)
def kb (x : List UInt8) : ByteArray := ⟨x.toArray⟩
theorem kb_lit (x : List UInt8) : Lit.string x = keyLit (kb x) := by simp [keyLit, kb]
theorem kb_enc (x : List UInt8) : encStr x = .string (kb x) := rfl
theorem kb_data (k : ByteArray) : kb k.data.toList = k := by simp [kb]
theorem data_kb (x : List UInt8) : (kb x).data.toList = x := by simp [kb]

/-- the map's datum tells the list's keys, each with its number's block -/
structure Reads (D : Dt) (L : VL) (bl : ByteArray → Nat) : Prop where
  has : ∀ k, Maps.has D (keyLit k) = true ↔ ∃ x ∈ L, x.1 = k
  at_ : ∀ x ∈ L, ∀ z, D.atKey (keyLit x.1) z = .lit (.int .i64 (bl x.1 : Nat))

theorem Reads.nil : Reads (.map []) [] (fun _ => 0) := ⟨fun k => by simp [Maps.has_eq], fun x h => by cases h⟩
theorem Reads.same {D : Dt} {L L' : VL} {bl : ByteArray → Nat} (h : Reads D L bl) (hs : ∀ k, (∃ x ∈ L', x.1 = k) ↔ ∃ x ∈ L, x.1 = k) : Reads D L' bl :=
  ⟨fun k => (h.has k).trans (hs k).symm, fun x hx z => by
    obtain ⟨y, hy, e⟩ := (hs x.1).1 ⟨x, hx, rfl⟩
    rw [← e]; exact h.at_ y hy z⟩
theorem Reads.del {D : Dt} {L L' : VL} {bl : ByteArray → Nat} (h : Reads D L bl) (key : ByteArray) (hs : ∀ k, (∃ x ∈ L', x.1 = k) ↔ (∃ x ∈ L, x.1 = k) ∧ ¬ k = key) : Reads (D.del (keyLit key)) L' bl := by
  refine ⟨fun k => ?_, fun x hx z => ?_⟩
  · rw [hs k]
    by_cases e : k = key
    · subst e
      simp [Maps.has_del_same]
    · rw [Maps.has_del_other (fun e2 => e (keyLit_inj e2)), h.has k]
      simp [e]
  · obtain ⟨⟨y, hy, e⟩, hne⟩ := (hs x.1).1 ⟨x, hx, rfl⟩
    rw [Maps.atKey_del_other (fun e2 => hne (keyLit_inj e2)), ← e]
    exact h.at_ y hy z
theorem Reads.put {D : Dt} {L L' : VL} {bl : ByteArray → Nat} (h : Reads D L bl) (hD : IsMap D) {key : ByteArray} (hk : key.size ≤ maxLen) (p : Nat) (hs : ∀ k, (∃ x ∈ L', x.1 = k) ↔ (∃ x ∈ L, x.1 = k) ∨ k = key) :
    Reads (D.put (keyLit key) (.lit (.int .i64 (p : Nat)))) L' (fun k => if k = key then p else bl k) := by
  refine ⟨fun k => ?_, fun x hx z => ?_⟩
  · rw [hs k]
    by_cases e : k = key
    · subst e
      simp [Maps.has_put_same hD (keyLit_key hk)]
    · rw [Maps.has_put_other (fun e2 => e (keyLit_inj e2)), h.has k]
      simp [e]
  · by_cases e : x.1 = key
    · rw [if_pos e, e, Maps.atKey_put_same hD (keyLit_key hk)]
    · rw [if_neg e, Maps.atKey_put_other (fun e2 => e (keyLit_inj e2))]
      rcases (hs x.1).1 ⟨x, hx, rfl⟩ with ⟨y, hy, e2⟩ | e2
      · rw [← e2]; exact h.at_ y hy z
      · exact absurd e2 e

theorem Rising.nodup {L : VL} (h : Rising L) : (L.map fun x => x.1.data.toList).Nodup := by
  refine List.pairwise_map.2 (h.imp fun {x y} hl e => ?_)
  have := ba_ext e
  rw [this, lt_irrefl] at hl
  cases hl
theorem keys_perm {w : World} {b n : Nat} {D : Dt} {L : VL} {bl : ByteArray → Nat} (hown : w.ownsMap Try.prog 9 ptrElem b n D) (r : Reads D L bl) (g : Rising L) : (L.map fun x => x.1.data.toList).Perm (strKeys D) := by
  obtain ⟨es, hD, hpw, _⟩ := hown.entries law
  obtain ⟨es', hD', hko⟩ := hown.keysOf
  obtain rfl : es = es' := by rw [hD] at hD'; simpa using hD'
  subst hD
  refine perm_strKeys hpw (fun p hp => by obtain ⟨v, hv⟩ := hko p hp; obtain ⟨x, _, hx, _⟩ := Maps.keyOf_str Try.underlying9 hv; exact ⟨x, hx⟩) g.nodup (fun x => ?_)
  rw [kb_lit, r.has]
  constructor
  · intro h
    obtain ⟨y, hy, e⟩ := List.mem_map.1 h
    exact ⟨y, hy, by rw [← e, kb_data]⟩
  · rintro ⟨y, hy, e⟩
    exact List.mem_map.2 ⟨y, hy, by rw [e, data_kb]⟩
theorem size_is {w : World} {b n : Nat} {D : Dt} {L : VL} {bl : ByteArray → Nat} (hown : w.ownsMap Try.prog 9 ptrElem b n D) (r : Reads D L bl) (g : Rising L) : Maps.size D = L.length := by
  have h := (keys_perm hown r g).length_eq
  obtain ⟨es, rfl⟩ := hown.isMap
  simp [strKeys] at h
  rw [h]
  rfl
theorem tight {w : World} {b n : Nat} {D : Dt} {L : VL} {bl : ByteArray → Nat} (hown : w.ownsMap Try.prog 9 ptrElem b n D) (r : Reads D L bl) (g : Rising L) : w.ownsMap Try.prog 9 ptrElem b L.length D := by
  rw [← size_is hown r g]
  obtain ⟨es, clock, hb, F, hs, rfl⟩ := hown
  exact ⟨es, clock, hb, F, by simp [Maps.size, length_sorted], rfl⟩

/-- an END as it is kept -/
def enc (e : Int) : Int := if e < 0 then 9007199254740993 else e
theorem enc_live {now : Int} {x : Vr} (h : -1 ≤ x.2.2 ∧ x.2.2 ≤ 9007199254740992) : isLive now x = decide (clamp now < enc x.2.2) := by
  unfold isLive enc clamp
  by_cases h1 : x.2.2 < 0
  · rw [if_pos h1]
    have h2 : max 0 (min now 9007199254740992) < (9007199254740993 : Int) := by omega
    simp [h1, h2]
  · rw [if_neg h1]
    simp [h1]

/-- what lies in memory: the pair of room and map, the map, each key's number -/
structure In (w : World) (own : List Nat) (v b room : Nat) (L : VL) (bl : ByteArray → Nat) (D : Dt) : Prop where
  good : Good room L
  fits : ∀ x ∈ L, x.1.size ≤ maxLen ∧ I64 x.2.1 ∧ (-1 ≤ x.2.2 ∧ x.2.2 ≤ 9007199254740992)
  box : w.heap[v]? = some (.cells #[.int .i64 (room : Nat), .map (some b)] 50 (0, 0))
  map : w.ownsMap Try.prog 9 ptrElem b L.length D
  reads : Reads D L bl
  nums : ∀ x ∈ L, w.heap[bl x.1]? = some (.cells #[.int .i64 x.2.1, .int .i64 (enc x.2.2)] 54 (0, 0))
  apart : ∀ x ∈ L, ∀ y ∈ L, bl x.1 = bl y.1 → x.1 = y.1
  ownV : v ∈ own
  ownB : b ∈ own
  ownN : ∀ x ∈ L, bl x.1 ∈ own
  old : ∀ x ∈ own, x < w.heap.size

def At (w : World) (own : List Nat) (v room : Nat) (L : VL) : Prop := ∃ b bl D, In w own v b room L bl D

theorem ownsMap_eq {w w' : World} {b n : Nat} {D : Dt} (h : w.ownsMap Try.prog 9 ptrElem b n D) (e : w'.heap[b]? = w.heap[b]?) : w'.ownsMap Try.prog 9 ptrElem b n D := by
  obtain ⟨es, clock, hb, r⟩ := h
  exact ⟨es, clock, e.trans hb, r⟩

section
variable {w w' : World} {own : List Nat} {v b room : Nat} {L : VL} {bl : ByteArray → Nat} {D : Dt}
theorem In.keep {o2 : List Nat} (h : In w own v b room L bl D) (k : Only o2 w w') (hs : ∀ x ∈ own, x ∉ o2) : In w' own v b room L bl D where
  good := h.good
  fits := h.fits
  box := (k.block v (h.old v h.ownV) (hs v h.ownV)).trans h.box
  map := ownsMap_eq h.map (k.block b (h.old b h.ownB) (hs b h.ownB))
  reads := h.reads
  nums x hx := (k.block _ (h.old _ (h.ownN x hx)) (hs _ (h.ownN x hx))).trans (h.nums x hx)
  apart := h.apart
  ownV := h.ownV
  ownB := h.ownB
  ownN := h.ownN
  old x hx := Nat.lt_of_lt_of_le (h.old x hx) k.size
theorem In.below (h : In w own v b room L bl D) (hb : Below w.heap.size w w') : In w' own v b room L bl D := h.keep (Only.of_below [] hb) (by simp)
theorem In.roomc (h : In w own v b room L bl D) : w.cell? ⟨v, 0, none⟩ = some (.int .i64 (room : Nat)) := by rw [cell_of_row _ _ _ _ _ _ h.box]; rfl
theorem In.mapc (h : In w own v b room L bl D) : w.cell? ⟨v, 1, none⟩ = some (.map (some b)) := by rw [cell_of_row _ _ _ _ _ _ h.box]; rfl
theorem In.numc (h : In w own v b room L bl D) {x : Vr} (hx : x ∈ L) : w.cell? ⟨bl x.1, 0, none⟩ = some (.int .i64 x.2.1) := by rw [cell_of_row _ _ _ _ _ _ (h.nums x hx)]; rfl
theorem In.endc (h : In w own v b room L bl D) {x : Vr} (hx : x ∈ L) : w.cell? ⟨bl x.1, 1, none⟩ = some (.int .i64 (enc x.2.2)) := by rw [cell_of_row _ _ _ _ _ _ (h.nums x hx)]; rfl
theorem In.froz (h : In w own v b room L bl D) {x : Vr} (hx : x ∈ L) (j : Nat) : w.frozen? ⟨bl x.1, j, none⟩ = false := frozen_of_row _ _ _ _ _ (h.nums x hx)
theorem In.ne_vb (h : In w own v b room L bl D) : v ≠ b := fun e => by
  obtain ⟨es, clock, hb, _⟩ := h.map
  rw [← e, h.box] at hb
  cases hb
theorem In.ne_nb (h : In w own v b room L bl D) {x : Vr} (hx : x ∈ L) : bl x.1 ≠ b := fun e => by
  obtain ⟨es, clock, hb, _⟩ := h.map
  rw [← e, h.nums x hx] at hb
  cases hb
theorem In.ne_vn (h : In w own v b room L bl D) {x : Vr} (hx : x ∈ L) : bl x.1 ≠ v := fun e => by
  have := h.nums x hx
  rw [e, h.box] at this
  simp at this

theorem wi_len_in {L : VL} (g : Rising L) {key : ByteArray} (n e : Int) (hx : ∃ x ∈ L, x.1 = key) : (wi L (key, n, e)).length = L.length := by
  have hp : ((wi L (key, n, e)).map fun x => x.1.data.toList).Perm (L.map fun x => x.1.data.toList) := by
    refine (List.perm_ext_iff_of_nodup (g.wi _).nodup g.nodup).2 fun a => ?_
    simp only [List.mem_map]
    constructor
    · rintro ⟨y, hy, rfl⟩
      rcases mem_wi.1 hy with rfl | ⟨hy, _⟩
      · obtain ⟨x, hx, e2⟩ := hx
        exact ⟨x, hx, by rw [e2]⟩
      · exact ⟨y, hy, rfl⟩
    · rintro ⟨y, hy, rfl⟩
      by_cases e2 : y.1 = key
      · exact ⟨_, mem_wi.2 (.inl rfl), by rw [e2]⟩
      · exact ⟨y, mem_wi.2 (.inr ⟨hy, e2⟩), rfl⟩
  simpa using hp.length_eq
theorem keys_wi {L : VL} {key : ByteArray} (n e : Int) (k : ByteArray) : (∃ x ∈ wi L (key, n, e), x.1 = k) ↔ (∃ x ∈ L, x.1 = k) ∨ k = key := by
  constructor
  · rintro ⟨y, hy, rfl⟩
    rcases mem_wi.1 hy with rfl | ⟨hy, _⟩
    · exact .inr rfl
    · exact .inl ⟨y, hy, rfl⟩
  · rintro (⟨y, hy, rfl⟩ | rfl)
    · by_cases e2 : y.1 = key
      · exact ⟨_, mem_wi.2 (.inl rfl), e2.symm⟩
      · exact ⟨y, mem_wi.2 (.inr ⟨hy, e2⟩), rfl⟩
    · exact ⟨_, mem_wi.2 (.inl rfl), rfl⟩

/-- a number that is there is written over -/
theorem In.write (h : In w own v b room L bl D) {x : Vr} (hx : x ∈ L) {n e : Int} (hn : I64 n) (he : -1 ≤ e ∧ e ≤ 9007199254740992) (k : Only [bl x.1] w w')
    (hb : w'.heap[bl x.1]? = some (.cells #[.int .i64 n, .int .i64 (enc e)] 54 (0, 0))) : In w' own v b room (wi L (x.1, n, e)) bl D where
  good := ⟨h.good.most, by rw [wi_len_in h.good.rise n e ⟨x, hx, rfl⟩]; exact h.good.len, h.good.rise.wi _⟩
  fits y hy := by
    rcases mem_wi.1 hy with rfl | ⟨hy, _⟩
    · exact ⟨(h.fits x hx).1, hn, he⟩
    · exact h.fits y hy
  box := (k.block v (h.old v h.ownV) (by simp; exact fun e => h.ne_vn hx e.symm)).trans h.box
  map := by rw [wi_len_in h.good.rise n e ⟨x, hx, rfl⟩]; exact ownsMap_eq h.map (k.block b (h.old b h.ownB) (by simp; exact fun e => h.ne_nb hx e.symm))
  reads := h.reads.same fun k => (keys_wi n e k).trans ⟨fun hc => hc.elim id (fun e2 => ⟨x, hx, e2.symm⟩), .inl⟩
  nums y hy := by
    rcases mem_wi.1 hy with rfl | ⟨hy, hne⟩
    · exact hb
    · exact (k.block _ (h.old _ (h.ownN y hy)) (by simp; exact fun e2 => hne (h.apart y hy x hx e2))).trans (h.nums y hy)
  apart y hy z hz e2 := by
    rcases mem_wi.1 hy with rfl | ⟨hy, _⟩ <;> rcases mem_wi.1 hz with rfl | ⟨hz, _⟩
    · rfl
    · exact h.apart x hx z hz e2
    · exact h.apart y hy x hx e2
    · exact h.apart y hy z hz e2
  ownV := h.ownV
  ownB := h.ownB
  ownN y hy := by
    rcases mem_wi.1 hy with rfl | ⟨hy, _⟩
    · exact h.ownN x hx
    · exact h.ownN y hy
  old y hy := Nat.lt_of_lt_of_le (h.old y hy) k.size

/-- some keys are taken away -/
theorem In.fewer (h : In w own v b room L bl D) {L' : VL} {D' : Dt} {n : Nat} (hs : L'.Sublist L) (k : Only [b] w w') (hm : w'.ownsMap Try.prog 9 ptrElem b n D') (hr : Reads D' L' bl) : In w' own v b room L' bl D' where
  good := ⟨h.good.most, Nat.le_trans hs.length_le h.good.len, List.Pairwise.sublist hs h.good.rise⟩
  fits x hx := h.fits x (hs.subset hx)
  box := (k.block v (h.old v h.ownV) (by simp; exact h.ne_vb)).trans h.box
  map := tight hm hr (List.Pairwise.sublist hs h.good.rise)
  reads := hr
  nums x hx := (k.block _ (h.old _ (h.ownN x (hs.subset hx))) (by simp; exact h.ne_nb (hs.subset hx))).trans (h.nums x (hs.subset hx))
  apart x hx y hy := h.apart x (hs.subset hx) y (hs.subset hy)
  ownV := h.ownV
  ownB := h.ownB
  ownN x hx := h.ownN x (hs.subset hx)
  old x hx := Nat.lt_of_lt_of_le (h.old x hx) k.size

/-- a key more -/
theorem In.more (h : In w own v b room L bl D) {key : ByteArray} {n e : Int} {p m : Nat} (hlen : L.length < room) (hkey : ¬ ∃ x ∈ L, x.1 = key) (hk : key.size ≤ maxLen) (hn : I64 n) (he : -1 ≤ e ∧ e ≤ 9007199254740992) (k : Only [b] w w') (hp : w.heap.size ≤ p)
    (hb : w'.heap[p]? = some (.cells #[.int .i64 n, .int .i64 (enc e)] 54 (0, 0))) (hm : w'.ownsMap Try.prog 9 ptrElem b m (D.put (keyLit key) (.lit (.int .i64 (p : Nat))))) :
    In w' (p :: own) v b room (wi L (key, n, e)) (fun k => if k = key then p else bl k) (D.put (keyLit key) (.lit (.int .i64 (p : Nat)))) := by
  have hr : Reads (D.put (keyLit key) (.lit (.int .i64 (p : Nat)))) (wi L (key, n, e)) (fun k => if k = key then p else bl k) := h.reads.put h.map.isMap hk p (keys_wi n e)
  have hg : Rising (wi L (key, n, e)) := h.good.rise.wi _
  have hlo : ∀ x ∈ L, bl x.1 < p := fun x hx => Nat.lt_of_lt_of_le (h.old _ (h.ownN x hx)) hp
  refine ⟨⟨h.good.most, Nat.le_trans (wi_len _ h.good.rise).1 hlen, hg⟩, fun y hy => ?_, (k.block v (h.old v h.ownV) (by simp; exact h.ne_vb)).trans h.box, tight hm hr hg, hr, fun y hy => ?_, fun y hy z hz e2 => ?_, List.mem_cons_of_mem _ h.ownV, List.mem_cons_of_mem _ h.ownB, fun y hy => ?_, fun x hx => ?_⟩
  · rcases mem_wi.1 hy with rfl | ⟨hy, _⟩
    · exact ⟨hk, hn, he⟩
    · exact h.fits y hy
  · rcases mem_wi.1 hy with rfl | ⟨hy, hne⟩
    · simp only [if_true]; exact hb
    · simp only [if_neg hne]
      exact (k.block _ (h.old _ (h.ownN y hy)) (by simp; exact h.ne_nb hy)).trans (h.nums y hy)
  · rcases mem_wi.1 hy with rfl | ⟨hy, hne⟩ <;> rcases mem_wi.1 hz with rfl | ⟨hz, hnz⟩
    · rfl
    · simp only [if_true, if_neg hnz] at e2
      have := hlo z hz
      omega
    · simp only [if_true, if_neg hne] at e2
      have := hlo y hy
      omega
    · simp only [if_neg hne, if_neg hnz] at e2
      exact h.apart y hy z hz e2
  · rcases mem_wi.1 hy with rfl | ⟨hy, hne⟩
    · simp
    · simp only [if_neg hne]
      exact List.mem_cons_of_mem _ (h.ownN y hy)
  · rcases List.mem_cons.1 hx with rfl | hx
    · exact (Array.getElem?_eq_some_iff.1 hb).1
    · exact Nat.lt_of_lt_of_le (h.old x hx) k.size
end
end Go.Proofs.Ytekjohgnfplfjaa.Va
