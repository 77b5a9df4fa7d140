/-
  One byte is taken, of a parser that stands so; the iterator over the commands that are whole.
-/
import Derived.Test.YtgjedhdnnfdcgaaRspEch
namespace Go.Proofs.Ytgjedhdnnfdcgaa.Rp
open Go.RowKit Go.Shelf
attribute [local go_sem] Oper.semAt_some

/-- a parser that has read to s, and its blocks -/
def PT (w : World) (pb : Nat) (own : List Nat) (s : St) : Prop :=
  ∃ vt va tx num cnt ar, own = pblk pb vt va ∧ PM w pb (fv s) ((got s).length : Nat) vt tx num cnt va ar ∧ like s tx num cnt ar
theorem PT.keep {w w' : World} {pb : Nat} {own o2 : List Nat} {s : St} (h : PT w pb own s) (k : Only o2 w w') (hn : ∀ x ∈ own, x ∉ o2) : PT w' pb own s := by
  obtain ⟨vt, va, tx, num, cnt, ar, rfl, hp, hl⟩ := h
  exact ⟨vt, va, tx, num, cnt, ar, rfl, hp.only k hn, hl⟩
theorem PT.below {w w' : World} {pb : Nat} {own : List Nat} {s : St} (h : PT w pb own s) (hb : Below w.heap.size w w') : PT w' pb own s := h.keep (Only.of_below [] hb) (by simp)
theorem PT.lt {w : World} {pb : Nat} {own : List Nat} {s : St} (h : PT w pb own s) : ∀ x ∈ own, x < w.heap.size := by
  obtain ⟨vt, va, tx, num, cnt, ar, rfl, hp, hl⟩ := h
  exact hp.lt
theorem PT.mem {w : World} {pb : Nat} {own : List Nat} {s : St} (h : PT w pb own s) : pb ∈ own := by
  obtain ⟨vt, va, tx, num, cnt, ar, rfl, hp, hl⟩ := h
  exact mem_pblk.2 (.inl rfl)
/-- what lies in a parser's blocks is no box of another type -/
theorem PT.not {w : World} {pb b : Nat} {own : List Nat} {s : St} (h : PT w pb own s) {t : TypeId} {cs : Array Value} (hb : Box w b t cs) (h1 : 62 ≠ t) (h2 : 5 ≠ t) (h3 : 9 ≠ t) : b ∉ own := by
  obtain ⟨vt, va, tx, num, cnt, ar, rfl, hp, hl⟩ := h
  intro hc
  rcases mem_pblk.1 hc with rfl | e | e
  · have := hp.box
    unfold Box at this hb
    rw [hb] at this
    injection this with this
    injection this with _ this _
    exact h1 this.symm
  · exact row_box hp.txt hb h2 e
  · exact row_box hp.arg hb h3 e
theorem PT.wrong {w : World} {pb : Nat} {own : List Nat} {s : St} (h : PT w pb own s) :
    Calls Try.prog 31 #[.pointer (some ⟨pb, 0, none⟩)] w fun e w' => e = .returned (.bool (isBad s)) ∧ w' = w := by
  obtain ⟨vt, va, tx, num, cnt, ar, rfl, hp, hl⟩ := h
  by_cases hs : s = .bad
  · subst hs
    exact bad_calls hp
  · rw [fv_eq hs] at hp
    have : isBad s = false := by cases s <;> first | rfl | exact absurd rfl hs
    rw [this]
    exact wrong_calls hp _ rfl
theorem isBad_iff {s : St} : isBad s = true ↔ s = .bad := by cases s <;> simp [isBad]

/-- one byte is taken -/
theorem PT.take {w : World} {pb : Nat} {own : List Nat} {s : St} (h : PT w pb own s) (hok : Ok s) (hlen : (got s).length ≤ 1048576) (c : UInt8) :
    Calls Try.prog 44 #[.pointer (some ⟨pb, 0, none⟩), .int .u8 (c.toNat : Int)] w fun e w' => ∃ own', PT w' pb own' (step s c).1 ∧
      (((step s c).2 = none ∧ e = .returned nilS ∧ Kept own w own' w') ∨
       ∃ x g cap, (step s c) = (.star, some x) ∧ e = .returned (.slice (some ⟨g, 0, none⟩) x.length cap) ∧ SRow w' 0 (.slice (some ⟨g, 0, none⟩) x.length cap) (x.map bat) ∧ Kept own w (g :: own') w' ∧ g ∉ own') := by
  obtain ⟨vt, va, tx, num, cnt, ar, rfl, hp, hl⟩ := h
  by_cases hs : s = .bad
  · subst hs
    refine (take_bad hp _).mono ?_
    rintro e w1 ⟨rfl, rfl⟩
    exact ⟨_, ⟨vt, va, tx, num, cnt, ar, rfl, hp, hl⟩, .inl ⟨rfl, rfl, Kept.refl _ _⟩⟩
  · obtain ⟨h1, h2, h3⟩ := step_ok hok c
    cases hst : step s c with
    | mk s' o =>
      rw [hst] at h1 h2 h3
      cases o with
      | none =>
        by_cases hb' : s' = .bad
        · subst hb'
          refine (take_wrong hs hok hp hl (by omega) (by omega) c hst).mono ?_
          rintro e w1 ⟨rfl, hp1, hk⟩
          exact ⟨_, ⟨nilS, nilS, [], 0, 0, [], rfl, hp1, trivial⟩, .inl ⟨rfl, rfl, hk⟩⟩
        · refine (take_none hs hok hp hl (by omega) (by omega) c hst hb').mono ?_
          rintro e w1 ⟨rfl, vt', va', tx', num', cnt', ar', hp1, hl1, hk⟩
          have hg : (got s').length = (got s).length + 1 := by
            rcases h3 with ⟨e, _⟩ | e
            · exact absurd e hb'
            · have := congrArg List.length e
              simp [encs] at this
              omega
          refine ⟨_, ⟨vt', va', tx', num', cnt', ar', rfl, ?_, hl1⟩, .inl ⟨rfl, rfl, hk⟩⟩
          have e2 : (((got s').length : Nat) : Int) = ((got s).length : Nat) + 1 := by omega
          show PM w1 pb (fv s') (((got s').length : Nat) : Int) vt' tx' num' cnt' va' ar'
          rw [e2]
          exact hp1
      | some x =>
        refine (take_some hs hok hp hl (by omega) (by omega) c hst).mono ?_
        rintro e w1 ⟨rfl, g, cap, rfl, hr, hp1, hk, hgp⟩
        refine ⟨pblk pb nilS nilS, ⟨nilS, nilS, [], 0, 0, [], rfl, hp1, ⟨rfl, rfl, rfl⟩⟩, .inr ⟨x, g, cap, rfl, rfl, hr, hk, fun hc => ?_⟩⟩
        rcases mem_pblk.1 hc with e | e | e
        · exact hgp e
        · cases e
        · cases e

/-- a command that is handed out, and where it ends -/
abbrev Yx := Nat × Cm
def yv (x : Yx) : Array Value := #[.int .i64 (x.1 : Nat), Cm.v x.2]
def Rel (x : Yx) : List Nat := (x.2.2.1.map (·.block)).toList
def cms (l : List Yx) : List (List Bytes) := l.map (·.2.1)
def Fr (own : List Nat) (B N : Nat) (s : St) (pre : List Yx) (x : Yx) (W : World) : Prop :=
  ∃ g, x.2.2.1 = some ⟨g, 0, none⟩ ∧ SRow W 0 (Cm.v x.2) (x.2.1.map bat) ∧ (g ∈ own ∨ B ≤ g) ∧ (got s).length + x.1 = (encs (cms (pre ++ [x]))).length ∧ pre.length ≤ N
def End (pb : Nat) (own : List Nat) (s : St) (b : Bytes) (ow : List Nat) (W : World) (xs : List Yx) (ow2 : List Nat) (W2 : World) : Prop :=
  ∃ own', PT W2 pb own' (run s b).1 ∧ cms xs = (run s b).2 ∧ Only (own ++ ow) W W2 ∧ (∀ y ∈ own', y ∈ own ∨ W.heap.size ≤ y) ∧ ∀ y ∈ ow2, (y ∈ ow ∨ y ∈ own ∨ W.heap.size ≤ y) ∧ y ∉ own'

end Go.Proofs.Ytgjedhdnnfdcgaa.Rp
namespace Go
section
variable {F : Fence} {n : Nat} {P : Program} {Q : Exit → Act → World → Prop} {a : Act} {w : World} {b : Frame} {k : List Item} {cs : List Frame}
theorem stepR_scope {c : Code} : step P (lone (b.atR a (.code (.scope c) :: k)) cs w) = .next (lone (b.atR a (.code c :: .inScope c :: k)) cs w) :=
  step_lone_go (by simp [stepG, stepG.exec, Frame.atR])
theorem stepR_inScope {c : Code} : step P (lone (b.atR a (.inScope c :: k)) cs w) = .next (lone (b.atR a k) cs w) :=
  step_lone_go (by simp [stepG, stepG.exec, Frame.atR])
/-- a scope that no jump leads back into, inside a fence -/
theorem wpIn_scope_straight {c : Code} (h : c.wpIn F n P (Exit.noGoto Q) a w) : (Code.scope c).wpIn F n P Q a w := by
  intro b k cs hro hb hr
  have h0 : (lone (b.atR a (.code (.scope c) :: k)) cs w).fenced P F := fenced_calm hb hr rfl
  obtain ⟨e, a₁, w₁, hq, harr⟩ := h b (.inScope c :: k) cs hro hb hr
  cases e with
  | normal => exact ⟨.normal, a₁, w₁, hq, .head h0 stepR_scope (StepsIn.trans harr (.one (fenced_calm hb hr rfl) stepR_inScope))⟩
  | exit id' =>
    have hx : exitTo id' (.inScope c :: k) = exitTo id' k := by simp [exitTo]
    exact ⟨.exit id', a₁, w₁, hq, fun k' hk => .head h0 stepR_scope (harr.1 k' (by rw [hx]; exact hk)),
      fun hr' hk => let ⟨k₁, h1, h2⟩ := harr.2 hr' (by rw [hx]; exact hk); ⟨k₁, h1, .head h0 stepR_scope h2⟩⟩
  | goto l => exact hq.elim
  | ret => exact ⟨_, a₁, w₁, hq, .of_steps (.one h0 stepR_scope) harr⟩
  | panic ch => exact ⟨_, a₁, w₁, hq, .of_steps (.one h0 stepR_scope) harr⟩
  | outgrown => exact ⟨_, a₁, w₁, hq, .of_steps (.one h0 stepR_scope) harr⟩
end
end Go
namespace Go.Proofs.Ytgjedhdnnfdcgaa.Rp
open Go.RowKit Go.Shelf
attribute [local go_sem] Oper.semAt_some

/-- where the iterator stands after k bytes -/
def At2 (W : World) (J : List Nat → List Yx → World → Prop) (pb : Nat) (own : List Nat) (s : St) (b : Bytes) (ow : List Nat) (k : Nat) (Wk : World) : Prop :=
  ∃ owk ok pre, J owk pre Wk ∧ PT Wk pb ok (run s (b.take k)).1 ∧ cms pre = (run s (b.take k)).2 ∧ Only (own ++ ow) W Wk ∧ (∀ y ∈ ok, (y ∈ own ∨ W.heap.size ≤ y) ∧ y ∉ owk) ∧ ∀ y ∈ owk, (y ∈ ow ∨ y ∈ own ∨ W.heap.size ≤ y) ∧ y < Wk.heap.size

theorem run_few (s : St) (l : Bytes) : (run s l).2.length ≤ l.length := by
  induction l generalizing s with
  | nil => simp [run]
  | cons c l ih =>
    have h1 := ih (step s c).1
    have h2 : (step s c).2.toList.length ≤ 1 := by cases (step s c).2 <;> simp
    simp only [run, List.length_append, List.length_cons]
    omega

set_option maxRecDepth 100000 in
set_option maxHeartbeats 4000000 in
theorem commands_each {w : World} {pb : Nat} {own : List Nat} {s : St} (h : PT w pb own s) (hok : Ok s) {A : Option Addr} {cap : Nat} {b : Bytes} (hB : BS (Free own w) w A cap b) (hlen : (got s).length + b.length ≤ 1048576) (bb bp : Nat)
    (h0 : Box w bb 23 #[.slice A b.length cap]) (h1 : Box w bp 53 #[.pointer (some ⟨pb, 0, none⟩)]) (n : Nat) (hn : 2 ≤ n) :
    EachM Fence.wide n Try.prog 43 #[.pointer (some ⟨bb, 0, none⟩), .pointer (some ⟨bp, 0, none⟩)] yv (Fr own w.heap.size b.length s) Rel (End pb own s b)
      (fun ow => bb ∉ ow ∧ bp ∉ ow ∧ (∀ y ∈ own, y ∉ ow) ∧ ∀ a, A = some a → b ≠ [] → a.block ∉ ow) w := by
  intro l J ow W hW how hRd hJ hY hJ0
  have B0 := h0.keep hW
  have B1 := h1.keep hW
  have hP := h.below hW
  have q0 := B0.cell 0
  have q1 := B1.cell 0
  simp only [List.getElem?_toArray, List.getElem?_cons_zero] at q0 q1
  refine callsIn_of_wp Try.func43 rfl trivial ?_ rfl
  simp only [Try.ntmps43, List.size_toArray, List.length_cons, List.length_nil, Nat.reduceAdd, Nat.reduceSub, Array.replicate_succ, Array.replicate_zero, List.push_toArray, List.append_toArray, List.nil_append, List.cons_append]
  gi_wp2_with (first | gi_in)
  refine wpIn_scope_straight ?_
  refine wpIn_seq (wpIn_label (show Code.wpIn _ _ _ _ _ _ _ from ?_))
  have nb0 : bb ∉ own := h.not h0 (by decide) (by decide) (by decide)
  have nb1 : bp ∉ own := h.not h1 (by decide) (by decide) (by decide)
  have HB := Lib.hid hB
  have HN : Hid (∀ x ∈ own ++ ow, x ≠ bb ∧ x ≠ bp) := Lib.hid fun x hx => by
    rcases List.mem_append.1 hx with hx | hx
    · exact ⟨fun e => nb0 (e ▸ hx), fun e => nb1 (e ▸ hx)⟩
    · exact ⟨fun e => hRd.1 (e ▸ hx), fun e => hRd.2.1 (e ▸ hx)⟩
  have HRD := Lib.hid hRd
  have HW := Lib.hid hW
  have HP := Lib.hid hP
  have HJ := Lib.hid hJ
  have HY := Lib.hid hY
  have HB0 := Lib.hid B0
  have HB1 := Lib.hid B1
  have HJ0 : Hid (At2 W J pb own s b ow 0 W) := Lib.hid ⟨ow, own, [], hJ0, hP, rfl, Only.refl _ _, fun y hy => ⟨.inl hy, hRd.2.2.1 y hy⟩, fun y hy => ⟨.inl hy, how y hy⟩⟩
  clear hB hRd hW hP hJ hY B0 B1 hJ0 h0 h1 h nb0 nb1
  gi_wp2_with (first | gi_in)
  gi_loopg [9] b.length (fun g s9 wr => ∃ k : Nat, k ≤ b.length ∧ b.length - k ≤ g ∧ s9 = .int .i64 (k : Nat) ∧ Hid (At2 W J pb own s b ow k wr))
  case atStart => exact ⟨0, Nat.zero_le _, by omega, rfl, HJ0⟩
  case round =>
    obtain ⟨k, hk, hg, rfl, hA⟩ := hrel
    by_cases hlt : k < b.length
    · have hlt2 : decide ((k : Int) < (b.length : Int)) = true := decide_eq_true (by omega)
      obtain ⟨owk, ok, pre, j1, j2, j3, j4, j5, j6⟩ := hA.out
      have d0 := (HB0.out.only j4 (fun hc => (HN.out bb hc).1 rfl)).cell 0
      have d1 := (HB1.out.only j4 (fun hc => (HN.out bp hc).2 rfl)).cell 0
      simp only [List.getElem?_toArray, List.getElem?_cons_zero] at d0 d1
      obtain ⟨a, rfl, ca⟩ := HB.out.bts k hlt
      have hne : b ≠ [] := fun e => by rw [e] at hlt; simp at hlt
      have hab : a.block ∉ own ++ ow := fun hc => (List.mem_append.1 hc).elim (HB.out.fr a rfl hne).2 (HRD.out.2.2.2 a rfl hne)
      have ca1 := keep2 HW.out ca
      have ca2 : wr.cell? (a.add k) = some (.int .u8 (b[k].toNat : Int)) := by
        unfold World.cell? at ca1 ⊢
        rw [add_blk] at ca1 ⊢
        rw [j4.block a.block (Nat.lt_of_lt_of_le (HB.out.fr a rfl hne).1 HW.out.size) hab]
        exact ca1
      have htk : b.take (k + 1) = b.take k ++ [b[k]] := by rw [List.take_add_one, List.getElem?_eq_getElem hlt]; rfl
      have hrk : run s (b.take (k + 1)) = ((step (run s (b.take k)).1 b[k]).1, (run s (b.take k)).2 ++ (step (run s (b.take k)).1 b[k]).2.toList) := by rw [htk, run_append]; simp [run]
      have hgot : (got (run s (b.take k)).1).length ≤ (got s).length + k := by
        obtain ⟨_, _, rest, h3, h4⟩ := run_ok hok (b.take k)
        have := congrArg List.length h3
        rw [List.length_append, List.length_append, List.length_take] at this
        rcases h4 with h4 | h4
        · rw [h4]; simp [got]
        · rw [← h4]; omega
      have hgot2 : (run s (b.take k)).1 = .bad ∨ (got s).length + k = (encs (run s (b.take k)).2).length + (got (run s (b.take k)).1).length := by
        obtain ⟨_, _, rest, h3, h4⟩ := run_ok hok (b.take k)
        have := congrArg List.length h3
        rw [List.length_append, List.length_append, List.length_take] at this
        rcases h4 with h4 | h4
        · exact .inl h4
        · rw [← h4]; exact .inr (by omega)
      have hokk := (run_ok hok (b.take k)).1
      have HT := Lib.hid (PT.take j2 hokk (by omega) b[k])
      have HR := Lib.hid hrk
      have HG := Lib.hid hgot2
      have HO := Lib.hid hokk
      have HS := Lib.hid (And.intro j1 (And.intro j3 (And.intro j4 (And.intro j5 j6))))
      clear j1 j3 j4 j5 j6 hrk hgot hgot2 hokk htk ca ca1 hab hA j2
      generalize hc : b[k] = c at HT HR ca2
      gi_wp2_with (first | gi_in)
      refine ⟨trivial, fun _ => by omega, (callsIn_wide.2 HT.out).mono ?_⟩
      rintro e w2 ⟨own', t1, ⟨o1, rfl, k1⟩ | ⟨x, g, cap2, o1, rfl, r1, k1, hg1⟩⟩
      · have HN2 : Hid (At2 W J pb own s b ow (k + 1) w2) := by
          obtain ⟨j1, j3, j4, j5, j6⟩ := HS.out
          have hz := k1.1.size
          have hzw := j4.size
          refine Lib.hid ⟨owk, own', pre, HJ.out _ _ _ _ _ j1 k1.1 (fun y hy hc2 => (j5 y hc2).2 hy), by rw [HR.out]; exact t1, by rw [HR.out, o1, j3]; simp, j4.trans k1.1 (fun y hy => (j5 y hy).1.imp (fun h => by simp [h]) id), fun y hy => ?_, fun y hy => ⟨(j6 y hy).1, Nat.lt_of_lt_of_le (j6 y hy).2 hz⟩⟩
          rcases k1.2 y hy with h | h
          · exact j5 y h
          · exact ⟨.inr (by omega), fun hc2 => by have := (j6 y hc2).2; omega⟩
        have HW2 := Lib.hid t1.wrong
        have d2 : w2.cell? ⟨bp, 0, none⟩ = some (.pointer (some ⟨pb, 0, none⟩)) := by
          obtain ⟨_, _, _, _, _, _, j4, _, _⟩ := HN2.out
          have := (HB1.out.only j4 (fun hc => (HN.out bp hc).2 rfl)).cell 0
          simpa using this
        cases hb : isBad (step (run s (List.take k b)).1 c).1 with
        | true =>
          rw [hb] at HW2
          have hbad := isBad_iff.1 hb
          have hE : Hid (∃ ow2 xs, J ow2 xs w2 ∧ End pb own s b ow W xs ow2 w2) := by
            obtain ⟨owk, ok, pre, j1, j2, j3, j4, j5, j6⟩ := HN2.out
            have hfin : run s b = run s (b.take (k + 1)) := by
              have e1 : run s b = run s (b.take (k + 1) ++ b.drop (k + 1)) := by rw [List.take_append_drop]
              rw [e1, run_append, HR.out, hbad, run_bad]
              simp
            exact Lib.hid ⟨owk, pre, j1, ok, by rw [hfin]; exact j2, by rw [hfin]; exact j3, j4, fun y hy => (j5 y hy).1, fun y hy => ⟨(j6 y hy).1, fun hc2 => (j5 y hc2).2 hy⟩⟩
          clear t1 k1 HN2 HT HR HS HG HO o1 hb hbad
          gi_wp2_with (first | gi_in)
          refine ⟨trivial, fun _ => by omega, (callsIn_wide.2 HW2.out).mono ?_⟩
          rintro e w3 ⟨rfl, rfl⟩
          gi_wp2_with (first | gi_in)
          rw [Exit.noGoto_normal]
          go_end0
          exact ⟨⟨_, rfl⟩, hE.out⟩
        | false =>
          rw [hb] at HW2
          clear t1 k1 HT HR HS HG HO o1 hb
          gi_wp2_with (first | gi_in)
          refine ⟨trivial, fun _ => by omega, (callsIn_wide.2 HW2.out).mono ?_⟩
          rintro e w3 ⟨rfl, rfl⟩
          gi_wp2_with (first | gi_in)
          refine ⟨(fun f hf => by cases hf), ?_⟩
          gi_wp2_with (first | gi_in)
          gi_roundg (b.length - (k + 1))
          case measure => omega
          case rel => exact ⟨k + 1, by omega, Nat.le_refl _, by go_num, HN2⟩
      · rw [o1] at t1
        dsimp only at t1
        have hz := k1.1.size
        obtain ⟨j1, j3, j4, j5, j6⟩ := HS.out
        have hgo : g ∈ own ∨ W.heap.size ≤ g := (k1.2 g (by simp)).elim (fun h => (j5 g h).1) (fun h => .inr (Nat.le_trans j4.size h))
        have hgw : g ∉ owk := fun hc2 => (k1.2 g (by simp)).elim (fun h => (j5 g h).2 hc2) (fun h => by have := (j6 g hc2).2; omega)
        have hxs : (run s (b.take (k + 1))).2 = cms pre ++ [x] := by rw [HR.out, o1, ← j3]; simp
        have hs1 : (run s (b.take (k + 1))).1 = .star := by rw [HR.out, o1]
        have henc : (got s).length + (k + 1) = (encs (cms (pre ++ [(k + 1, x, some ⟨g, 0, none⟩, cap2)]))).length := by
          obtain ⟨_, _, rest, h3, h4⟩ := run_ok hok (b.take (k + 1))
          rw [hs1] at h4
          rw [hxs] at h3
          have := congrArg List.length h3
          rw [List.length_append, List.length_append, List.length_take, Nat.min_eq_left (by omega)] at this
          rcases h4 with h4 | h4
          · cases h4
          · rw [h4] at this
            simp [cms, got] at this ⊢
            omega
        have hpl : pre.length ≤ b.length := by
          have h2 := congrArg List.length hxs
          have h3 := run_few s (b.take (k + 1))
          rw [List.length_append, show (cms pre).length = pre.length from by simp [cms]] at h2
          rw [List.length_take] at h3
          omega
        have hJ2 := HJ.out _ _ _ _ _ j1 k1.1 (fun y hy hc2 => (j5 y hc2).2 hy)
        have hFr : Fr own w.heap.size b.length s pre (k + 1, x, some ⟨g, 0, none⟩, cap2) w2 := ⟨g, rfl, r1, hgo.imp id (fun h => Nat.le_trans HW.out.size h), henc, hpl⟩
        obtain ⟨fn, tmps, assign, body, hy, hR⟩ := HY.out owk pre (k + 1, x, some ⟨g, 0, none⟩, cap2) w2 hJ2 hFr (fun y hy => ⟨Nat.lt_of_lt_of_le (j6 y hy).2 hz, fun hc2 => hgw (by simp [Rel] at hc2; rw [← hc2]; exact hy)⟩)
        simp only [yv, Cm.v, Int.natCast_add, Int.cast_ofNat_Int] at hy
        have HW2 := Lib.hid t1.wrong
        have HR2 := Lib.hid hR
        have HX := Lib.hid (And.intro hxs (And.intro hs1 (And.intro hgo hgw)))
        have HK1 := Lib.hid (And.intro k1 (And.intro t1 hg1))
        have d2 : w2.cell? ⟨bp, 0, none⟩ = some (.pointer (some ⟨pb, 0, none⟩)) := by
          have := (HB1.out.only (j4.trans k1.1 (fun y hy => (j5 y hy).1.imp (fun h => by simp [h]) id)) (fun hc => (HN.out bp hc).2 rfl)).cell 0
          simpa using this
        have hw1 : IntKind.i64.wrap ((k : Int) + 1) = (k : Int) + 1 := IntWalk.i64_in _ (by omega)
        rw [show isBad St.star = false from rfl] at HW2
        clear t1 k1 hR hFr hJ2 henc hxs hs1 hgo hgw HT HR HG HO o1 r1 j1 j3 j4 j5 j6 hpl hg1
        gi_wp2_with (first | gi_in)
        refine ⟨trivial, fun _ => by omega, (callsIn_wide.2 HW2.out).mono ?_⟩
        rintro e w3 ⟨rfl, rfl⟩
        gi_wp2_with (first | gi_in)
        refine ⟨fun _ => by omega, HR2.out.mono ?_⟩
        rintro e W3 ⟨rfl, ow2, hJ3, ho3, hlt3⟩
        have HN3 : Hid (At2 W J pb own s b ow (k + 1) W3) := by
          obtain ⟨j1, j3, j4, j5, j6⟩ := HS.out
          obtain ⟨hxs, hs1, hgo, hgw⟩ := HX.out
          obtain ⟨k1, t1, hg1⟩ := HK1.out
          have hz1 := j4.size
          have hz2 := k1.1.size
          have hno : ∀ y ∈ own', y ∉ owk := fun y hy hc2 => (k1.2 y (by simp [hy])).elim (fun h => (j5 y h).2 hc2) (fun h => by have := (j6 y hc2).2; omega)
          refine Lib.hid ⟨ow2, own', pre ++ [(k + 1, x, some ⟨g, 0, none⟩, cap2)], hJ3, ?_, ?_, ?_, fun y hq => ⟨?_, fun hc2 => ?_⟩, fun y hq => ⟨?_, (hlt3 y hq).2⟩⟩
          · rw [hs1]; exact t1.keep ho3 hno
          · rw [hxs]; simp [cms]
          · refine (j4.trans k1.1 (fun y hy => (j5 y hy).1.imp (fun h => by simp [h]) id)).trans ho3 (fun y hy => ?_)
            rcases (j6 y hy).1 with h | h | h
            · exact .inl (by simp [h])
            · exact .inl (by simp [h])
            · exact .inr h
          · exact (k1.2 y (by simp [hq])).elim (fun h => (j5 y h).1) (fun h => .inr (by omega))
          · rcases (hlt3 y hc2).1 with h | h | h
            · exact hno y hq h
            · simp [Rel] at h
              subst h
              exact hg1 hq
            · have := t1.lt y hq
              omega
          · rcases (hlt3 y hq).1 with h | h | h
            · exact (j6 y h).1
            · simp [Rel] at h
              subst h
              exact .inr hgo
            · exact .inr (.inr (by omega))
        clear hJ3 ho3 hlt3 HS HX HK1 HR2 HW2
        gi_wp2_with (first | gi_in)
        gi_roundg (b.length - (k + 1))
        case measure => omega
        case rel => exact ⟨k + 1, by omega, Nat.le_refl _, by go_num, HN3⟩
    · have hkb : k = b.length := by omega
      have hlt2 : decide ((k : Int) < (b.length : Int)) = false := decide_eq_false (by omega)
      have hE : Hid (∃ ow2 xs, J ow2 xs wr ∧ End pb own s b ow W xs ow2 wr) := by
        obtain ⟨owk, ok, pre, j1, j2, j3, j4, j5, j6⟩ := hA.out
        rw [hkb, List.take_length] at j2 j3
        exact Lib.hid ⟨owk, pre, j1, ok, j2, j3, j4, fun y hy => (j5 y hy).1, fun y hy => ⟨(j6 y hy).1, fun hc2 => (j5 y hc2).2 hy⟩⟩
      gi_wp2_with (first | gi_in)
      rw [Exit.noGoto_normal]
      go_end0
      exact ⟨⟨_, rfl⟩, hE.out⟩
end Go.Proofs.Ytgjedhdnnfdcgaa.Rp
