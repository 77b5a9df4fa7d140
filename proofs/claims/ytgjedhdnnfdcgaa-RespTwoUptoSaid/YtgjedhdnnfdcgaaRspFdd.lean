/-
  What 'feed' tells, and how the parser stands behind it.
-/
import Derived.Test.YtgjedhdnnfdcgaaRspFdg
namespace Go.Proofs.Ytgjedhdnnfdcgaa.Rp
open Go.RowKit Go.Shelf
attribute [local go_sem] Oper.semAt_some

def errOf (s : St) : Int := if isBad s then 7 else 0
def FeedRes (w : World) (pb : Nat) (own : List Nat) (s : St) (b : Bytes) (e : Ending) (w' : World) : Prop :=
  ∃ own' A' c L last, e = .returned (.tuple #[.slice A' L.length c, .int .i64 (last : Nat), .int .i64 (errOf (run s b).1)]) ∧ (A' = none → c = 0) ∧ L.length ≤ c ∧ L.map (·.1) = (run s b).2 ∧ Handed (Out own own' w w') w' A' L ∧ PT w' pb own' (run s b).1 ∧ Kept own w own' w' ∧
    ((L = [] ∧ last = 0) ∨ (got s).length + last = (encs (L.map (·.1))).length)

theorem feed_world (w : World) (pb : Nat) (A : Option Addr) (n cap : Nat) :
    Below w.heap.size w ((((w.alloc (.cells #[.slice none 0 0] 27)).alloc (.cells #[.int .i64 0] 3)).alloc (ob0 pb)).alloc (ob1 A n cap)) ∧
    Box ((((w.alloc (.cells #[.slice none 0 0] 27)).alloc (.cells #[.int .i64 0] 3)).alloc (ob0 pb)).alloc (ob1 A n cap)) w.heap.size 27 #[.slice none 0 0] ∧
    Box ((((w.alloc (.cells #[.slice none 0 0] 27)).alloc (.cells #[.int .i64 0] 3)).alloc (ob0 pb)).alloc (ob1 A n cap)) (w.heap.size + 1) 3 #[.int .i64 0] ∧
    Box ((((w.alloc (.cells #[.slice none 0 0] 27)).alloc (.cells #[.int .i64 0] 3)).alloc (ob0 pb)).alloc (ob1 A n cap)) (w.heap.size + 1 + 1) 53 #[.pointer (some ⟨pb, 0, none⟩)] ∧
    Box ((((w.alloc (.cells #[.slice none 0 0] 27)).alloc (.cells #[.int .i64 0] 3)).alloc (ob0 pb)).alloc (ob1 A n cap)) (w.heap.size + 1 + 1 + 1) 23 #[.slice A n cap] := by
  refine ⟨((((Below.refl _ _).alloc (Nat.le_refl _) _).alloc (by simp) _).alloc (by simp; omega) _).alloc (by simp; omega) _, (((Box.new w _ _).alloc _).alloc _).alloc _, ?_, ?_, ?_⟩
  · have := ((Box.new (w.alloc (.cells #[.slice none 0 0] 27)) 3 #[.int .i64 0]).alloc (ob0 pb)).alloc (ob1 A n cap)
    simpa using this
  · have := (Box.new ((w.alloc (.cells #[.slice none 0 0] 27)).alloc (.cells #[.int .i64 0] 3)) 53 #[.pointer (some ⟨pb, 0, none⟩)]).alloc (ob1 A n cap)
    simpa using this
  · have := Box.new (((w.alloc (.cells #[.slice none 0 0] 27)).alloc (.cells #[.int .i64 0] 3)).alloc (ob0 pb)) 23 #[.slice A n cap]
    simpa using this
theorem slot_new (W : World) (t : TypeId) (x : Value) : ∀ j u, [x][j]? = some u → (W.alloc (.cells #[x] t)).cell? ((⟨W.heap.size, 0, none⟩ : Addr).add j) = some u := fun j u hj => by
  have e : (⟨W.heap.size, 0, none⟩ : Addr).add j = ⟨W.heap.size, j, none⟩ := by unfold Addr.add; split <;> simp_all
  rw [e, cell_of_row _ _ _ _ _ _ (heap_alloc_new W _), ← hj]
  simp
theorem results_tmp3 {P : Program} {fn : Func} {p q r : Tmp} (h : fn.results = #[.tmp p, .tmp q, .tmp r]) (tmps : Array Value) (w : World) (x y z : Value)
    (hp : tmps.getD p undef = x) (hq : tmps.getD q undef = y) (hr : tmps.getD r undef = z) : (results fn tmps).run P w = .ok (.tuple #[x, y, z]) w := by
  have hp' : tmps[p]?.getD undef = x := by simpa using hp
  have hq' : tmps[q]?.getD undef = y := by simpa using hq
  have hr' : tmps[r]?.getD undef = z := by simpa using hr
  simp [results, h, hp', hq', hr']
theorem row_form1 {w : World} {B n : Nat} {T : TypeId} {v : Value} {xs : List Value} (h : w.ownsRow B T 1 v (n + 1) xs) : ∃ g cap, v = .slice (some ⟨g, 0, none⟩) (n + 1) cap := by
  rcases h.2 with ⟨_, h0⟩ | ⟨g, cap, cur, rfl, _⟩
  · cases h0
  · exact ⟨g, cap, rfl⟩
section
variable {w0 : World} {bt bl : Nat} {own : List Nat} {s : St} {ow : List Nat} {pre : List Yx} {W W' : World} {vv : Value} {last : Nat}
/-- at the end: the row reads as what is handed out -/
theorem FI.handed (h : FI w0 bt bl own s ow pre W vv last) {S : Nat → Prop} (hS : ∀ k ∈ ow, k < W.heap.size → (k ∈ own ∨ w0.heap.size ≤ k) → S k) : ∃ A cap, vv = .slice A (pre.map (·.2)).length cap ∧ (A = none → cap = 0) ∧ (pre.map (·.2)).length ≤ cap ∧ Handed S W A (pre.map (·.2)) := by
  rcases h.row.2 with ⟨e, h0⟩ | ⟨g, cap, cur, e, hB, hg, hn, _⟩
  · have : pre = [] := List.eq_nil_of_length_eq_zero h0
    subst this
    exact ⟨none, 0, e, fun _ => rfl, Nat.le_refl _, ⟨fun i hi => absurd hi (by simp), fun i hi => absurd hi (by simp), fun i hi => absurd hi (by simp), fun i j hi => absurd hi (by simp)⟩⟩
  · refine ⟨some ⟨g, 0, none⟩, cap, by simpa using e, (fun e => by cases e), by simpa using hn, ⟨fun i hi => ?_, fun i hi => ?_, fun i hi => ?_, fun i j hi hj a b hij ea eb => ?_⟩⟩
    · have hi' : i < pre.length := by simpa using hi
      refine ⟨⟨g, 0, none⟩, rfl, hS g (h.mv g (by rw [e]; rfl)) (Array.getElem?_eq_some_iff.1 hg).1 (.inr hB), ?_, cur, _, hg⟩
      have := World.ownsRow.cells h.row (g := g) (by rw [e]; rfl) i (Cm.v pre[i].2) (by simp [hi'])
      rw [this]
      simp
    · have hi' : i < pre.length := by simpa using hi
      obtain ⟨k, e2, r, m, q⟩ := h.rd _ (List.getElem_mem hi')
      have hk : k < W.heap.size := (World.ownsRow.lt r k (by unfold Cm.v; rw [e2]; rfl)).2
      have hl := row_ty r (k := k) (by unfold Cm.v; rw [e2]; rfl)
      obtain ⟨cur2, hl⟩ := hl
      refine ⟨k, cur2, by simpa using e2, hS k m hk q, hl, ?_⟩
      have := SRow.text r
      simpa using this
    · have hi' : i < pre.length := by simpa using hi
      obtain ⟨k, e2, r, m, q⟩ := h.rd _ (List.getElem_mem hi')
      rcases r.2 with ⟨e3, _⟩ | ⟨g3, cap3, cur3, e3, _, _, hn3, _⟩
      · unfold Cm.v at e3; rw [e2] at e3; cases e3
      · unfold Cm.v at e3
        injection e3 with _ e4 e5
        simp at hn3
        simp only [List.getElem_map]
        omega
    · have hi' : i < pre.length := by simpa using hi
      have hj' : j < pre.length := by simpa using hj
      simp only [List.getElem_map] at ea eb
      rcases Nat.lt_or_gt_of_ne hij with hlt | hlt
      · exact List.pairwise_iff_getElem.1 h.dif i j hi' hj' hlt a b ea eb
      · exact Ne.symm (List.pairwise_iff_getElem.1 h.dif j i hj' hi' hlt b a eb ea)
end

theorem feed_end {w W1 W1' W2 W WF : World} {pb : Nat} {own own' : List Nat} {s : St} {b : Bytes} {xs : List Yx} {ow1 : List Nat} {vv : Value} {last : Nat} (hlt : ∀ x ∈ own, x < w.heap.size)
    (hb : Below w.heap.size w W1) (hsz : W1.heap.size = w.heap.size + 4) (hb1 : Below W1.heap.size W1 W1') (hs1 : W1'.heap.size = W1.heap.size + 2)
    (e1 : PT W2 pb own' (run s b).1) (e2 : cms xs = (run s b).2) (e3 : Only (own ++ ((W1.heap.size + 1) :: W1.heap.size :: [w.heap.size, w.heap.size + 1])) W1' W2) (e4 : ∀ y ∈ own', y ∈ own ∨ W1'.heap.size ≤ y)
    (e5 : ∀ y ∈ (W1.heap.size + 1) :: W1.heap.size :: ow1, (y ∈ (W1.heap.size + 1) :: W1.heap.size :: [w.heap.size, w.heap.size + 1] ∨ y ∈ own ∨ W1'.heap.size ≤ y) ∧ y ∉ own')
    (hO : Only [W1.heap.size + 1] W2 W) (hF : FI w w.heap.size (w.heap.size + 1) own s ow1 xs W vv last) (hD : W1.heap.size ∉ ow1) (hWF : Only [W1.heap.size] W WF) :
    FeedRes w pb own s b (.returned (.tuple #[vv, .int .i64 (last : Nat), .int .i64 (errOf (run s b).1)])) WF := by
  have hFF := hF.only hWF (fun y hy hc => by rw [List.mem_singleton] at hc; subst hc; exact hD hy)
  have hPF : PT WF pb own' (run s b).1 := (e1.keep hO (fun y hy hc => by rw [List.mem_singleton] at hc; subst hc; exact (e5 _ (by simp)).2 hy)).keep hWF (fun y hy hc => by rw [List.mem_singleton] at hc; subst hc; exact (e5 _ (by simp)).2 hy)
  have hk : Only own w WF := by
    refine (((Only.of_below own (hb.trans (hb1.mono hb.size))).trans e3 (fun y hy => ?_)).trans hO (fun y hy => .inr ?_)).trans hWF (fun y hy => .inr ?_)
    · rcases List.mem_append.1 hy with h | h
      · exact .inl h
      · right
        simp at h
        omega
    · rw [List.mem_singleton] at hy; omega
    · rw [List.mem_singleton] at hy; omega
  obtain ⟨A, c, rfl, hn, hc, hH⟩ := hFF.handed (S := Out own own' w WF) (fun k hk1 hk2 hk3 => ⟨⟨hk2, (e5 k (by simp [hk1])).2⟩, hk3⟩)
  exact ⟨own', A, c, xs.map (·.2), last, rfl, hn, hc, by rw [← e2]; simp [cms], hH, hPF, ⟨hk, fun y hy => (e4 y hy).imp id (fun h => by omega)⟩, by
    rcases hF.lst with ⟨rfl, h2⟩ | h2
    · exact .inl ⟨rfl, h2⟩
    · right
      rw [h2]
      congr 2
      simp [cms]⟩

set_option maxRecDepth 100000 in
set_option maxHeartbeats 4000000 in
theorem feed_calls {w : World} {pb : Nat} {own : List Nat} {s : St} (h : PT w pb own s) (hok : Ok s) {A : Option Addr} {cap : Nat} {b : Bytes} (hB : BS (Free own w) w A cap b) (hlen : (got s).length + b.length ≤ 1048576) :
    Calls Try.prog 29 #[.pointer (some ⟨pb, 0, none⟩), .slice A b.length cap] w (FeedRes w pb own s b) := by
  obtain ⟨hb, t0, l0, p0, s0⟩ := feed_world w pb A b.length cap
  obtain ⟨i0, hi, hz0, hz1, hz2⟩ := sls_parts
  have hlt := h.lt
  refine (callsIn_wide (n := 6)).1 ?_
  refine callsIn_of_wp_marks Try.func29 rfl trivial ?_ rfl
  simp only [Try.ntmps29, List.size_toArray, List.length_cons, List.length_nil, Nat.reduceAdd, Nat.reduceSub, Array.replicate_succ, Array.replicate_zero, List.push_toArray, List.append_toArray, List.nil_append, List.cons_append]
  gi_wp2_with (first
    | (refine ⟨trivial, ?_⟩; gi_at_call 37; refine (callsIn_wide.2 (commands_calls _ _ _ _ _)).mono ?_; rintro e w1 ⟨rfl, rfl⟩)
    | gi_in)
  have hsz : ((((w.alloc (.cells #[.slice none 0 0] 27)).alloc (.cells #[.int .i64 0] 3)).alloc (ob0 pb)).alloc (ob1 A b.length cap)).heap.size = w.heap.size + 4 := by simp
  generalize (((w.alloc (.cells #[.slice none 0 0] 27)).alloc (.cells #[.int .i64 0] 3)).alloc (ob0 pb)).alloc (ob1 A b.length cap) = W1 at hb t0 l0 p0 s0 hsz ⊢
  have hE := commands_each (h.below hb) hok (hB.goes (below_stands hb)) hlen (w.heap.size + 1 + 1 + 1) (w.heap.size + 1 + 1) s0 p0 5 (by omega)
  refine wpIn_eachM rfl (by omega) (gf := 43) (lb := #[.pointer (some ⟨w.heap.size + 1 + 1 + 1, 0, none⟩), .pointer (some ⟨w.heap.size + 1 + 1, 0, none⟩)]) rfl trivial (enters_of Try.func43 (by kernel_rfl) rfl) hE (Below.refl _ _) (fun _ => rfl)
    [w.heap.size, w.heap.size + 1] (by simp; omega) ?_
    (fun ow1 pre W => ∃ vv last, FI w w.heap.size (w.heap.size + 1) own s ow1 pre W vv last) (fun _ _ _ _ _ ⟨vv, last, h⟩ k hd => ⟨vv, last, h.only k hd⟩)
    ⟨_, 0, t0, l0, World.ownsRow_nil _ _ _ _, (by simp), List.Pairwise.nil, (by simp), (by simp), (by simp [Value.ownBlock]), (by omega), .inl ⟨rfl, rfl⟩⟩ ?round ?done
  · refine ⟨by simp; omega, by simp; omega, fun y hy hc => ?_, fun a ha hne hc => ?_⟩
    · have := hlt y hy
      simp at hc; omega
    · have := (hB.fr a ha hne).1
      simp at hc; omega
  case round =>
    rintro ow1 pre ⟨at_, l, A', cap'⟩ W ⟨vv, last, hF⟩ ⟨g, hA', hr, hgo, henc, hpl⟩ hlt1 hlW hlR hl1
    dsimp only at hA'
    subst hA'
    simp only [yv, Cm.v]
    have HF := Lib.hid hF
    have HR := Lib.hid hr
    have HQ := Lib.hid (And.intro hgo (And.intro henc hlt1))
    clear hF hr hgo henc hE h t0 l0 p0 s0
    gi_wp2_with (first | gi_in)
    refine ⟨Below.refl _ _, fun Wb hN hsz2 => ?_⟩
    have hFb := HF.out.only hN (fun y hy hc => by rw [List.mem_singleton] at hc; subst hc; exact hl1 (by rw [hsz] at *; exact hy))
    have hrb : SRow Wb 0 (.slice (some ⟨g, 0, none⟩) l.length cap') (l.map bat) := row_only HR.out hN (fun y hy e => by
      rw [List.mem_singleton] at hy
      injection e with e
      dsimp only at e
      subst hy
      exact hlR (by simp [Rel]; omega))
    have q0 := hFb.tb.cell 0
    have f0 := hFb.tb.free 0
    simp only [List.getElem?_toArray, List.getElem?_cons_zero] at q0
    have hpl2 : pre.length ≤ 1048576 := by omega
    have hbs : w.heap.size ≤ Wb.heap.size := by omega
    have HFB := Lib.hid hFb
    have HRB := Lib.hid hrb
    have HLT := Lib.hid (show ∀ y ∈ ow1, y < Wb.heap.size from fun y hy => by have := (HQ.out.2.2 y hy).1; omega)
    have HGW := Lib.hid (show g ∉ ow1 from fun hc => (HQ.out.2.2 g hc).2 (by simp [Rel]))
    have HSZ := Lib.hid hsz2
    clear hFb hrb HF HR hN hlW hlR hsz2
    gi_wp2_with (first
      | (gi_at_builtin; refine wpListIn_append_own_at _ rfl _ _ 27 rfl w.heap.size 36 i0 (.slice none 0 0) 1 24 Try.underlying27 hi hz0 hz1 hz2 rfl (by decide) vv pre.length (pre.map fun x => Cm.v x.2) rfl (HFB.out.row.alloc _) ⟨Wb.heap.size, 0, none⟩ 1 1 [.slice (some ⟨g, 0, none⟩) l.length cap'] rfl rfl (slot_new _ _ _) (by intro u hu; simp at hu; subst hu; rfl) (by unfold maxLen; omega) (by omega) (by simp; omega) ?_; intro v3 w3 hown3 hgr3 _ hob3; obtain ⟨g', cap3, rfl⟩ := row_form1 hown3; obtain ⟨x1, x2⟩ := HFB.out.after hgr3; have y0 := x1.cell 0; have y1 := x1.free 0; have y2 := (x2.far (Ne.symm HFB.out.ne) 0 (.slice (some ⟨g', 0, none⟩) (pre.length + 1) cap3)).cell 0; have y3 := (x2.far (Ne.symm HFB.out.ne) 0 (.slice (some ⟨g', 0, none⟩) (pre.length + 1) cap3)).free 0; simp only [List.getElem?_toArray, List.getElem?_cons_zero] at y0 y2; have HO3 := Lib.hid (And.intro hown3 (And.intro hgr3 hob3)); clear hown3 hgr3 hob3 x1 x2)
      | gi_in)
    obtain ⟨hown3, hgr3, hob3⟩ := HO3.out
    obtain ⟨p1, p2, p3⟩ := HFB.out.push (x := (at_, l, some ⟨g, 0, none⟩, cap')) rfl HRB.out (HQ.out.1.imp id (fun h => by omega)) HGW.out HLT.out HQ.out.2.1 hown3 hgr3 hob3
    exact ⟨_, p2, ⟨_, _, p1⟩, p3⟩
  case done =>
    rintro Dd ow1 xs W1' W2 W rfl hb1 hs1 ⟨own', e1, e2, e3, e4, e5⟩ hO ⟨vv, last, hF⟩ hD hK
    have hPT : PT W pb own' (run s b).1 := e1.keep hO (fun y hy hc => by rw [List.mem_singleton] at hc; subst hc; exact (e5 _ (by simp)).2 hy)
    have HPW := Lib.hid hPT.wrong
    have q0 := hF.tb.cell 0
    have q1 := hF.lb.cell 0
    simp only [List.getElem?_toArray, List.getElem?_cons_zero] at q0 q1
    have HEND := Lib.hid (fun WF (k : Only [W1.heap.size] W WF) => feed_end hlt hb hsz hb1 hs1 e1 e2 e3 e4 e5 hO hF hD k)
    have HK := Lib.hid hK
    clear hPT e1 e2 e3 e4 e5 hO hF hK hE h t0 l0 p0 s0 hD hb1 hs1
    cases hb2 : isBad (run s b).1 with
    | true =>
      rw [hb2] at HPW
      have HB2 := Lib.hid hb2
      clear hb2
      gi_wp2_with (first | gi_in)
      refine ⟨trivial, (callsIn_wide.2 HPW.out).mono ?_⟩
      rintro e w3 ⟨rfl, rfl⟩
      gi_wp2_with (first | gi_in)
      gi_big_region
      gi_wp2
      have hK3 : w3.drew.heap[w.heap.size + 4]? = some (.deferred (some [])) := by rw [← hsz]; exact HK.out
      refine ⟨by simp, .inl ⟨_, _, rfl, run_takeDeferred hK3, ?_⟩⟩
      have hfin := HEND.out (w3.drew.putObj (w.heap.size + 4) (.deferred none)) (by rw [hsz]; exact Only.also (b := w3.drew) ⟨rfl, rfl, rfl, Nat.le_refl _, fun _ _ _ => rfl⟩ (only_putObj _ _ _))
      unfold errOf at hfin
      rw [HB2.out] at hfin
      exact ⟨_, results_tmp3 Try.results29 _ _ _ _ _ rfl rfl rfl, hfin⟩
    | false =>
      rw [hb2] at HPW
      have HB2 := Lib.hid hb2
      clear hb2
      gi_wp2_with (first | gi_in)
      refine ⟨trivial, (callsIn_wide.2 HPW.out).mono ?_⟩
      rintro e w3 ⟨rfl, rfl⟩
      gi_wp2_with (first | gi_in)
      gi_big_region
      gi_wp2
      have hK3 : w3.drew.heap[w.heap.size + 4]? = some (.deferred (some [])) := by rw [← hsz]; exact HK.out
      refine ⟨by simp, .inl ⟨_, _, rfl, run_takeDeferred hK3, ?_⟩⟩
      have hfin := HEND.out (w3.drew.putObj (w.heap.size + 4) (.deferred none)) (by rw [hsz]; exact Only.also (b := w3.drew) ⟨rfl, rfl, rfl, Nat.le_refl _, fun _ _ _ => rfl⟩ (only_putObj _ _ _))
      unfold errOf at hfin
      rw [HB2.out] at hfin
      exact ⟨_, results_tmp3 Try.results29 _ _ _ _ _ rfl rfl rfl, hfin⟩
end Go.Proofs.Ytgjedhdnnfdcgaa.Rp
