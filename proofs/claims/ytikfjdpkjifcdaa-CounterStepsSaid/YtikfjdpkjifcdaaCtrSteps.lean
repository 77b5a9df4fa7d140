/-
  The walk of the law CounterSteps.
-/
import Derived.Test.YtikfjdpkjifcdaaCtrStates
namespace Go.Proofs.Ytikfjdpkjifcdaa
open Go.RowKit
attribute [local go_sem ↓] Go.wp_at_zero Go.wp_at_succ
namespace Wn

/-- two states that are the same, in boxes of their own, and their policy -/
structure Duo (w wr : World) (bp bs bt : Nat) (p : Pol) (st : St) (A : Option Addr) (cap : Nat) (C : Option Addr) (cap2 : Nat) : Prop where
  below : Below w.heap.size w wr
  pol : Box wr bp 23 (pcells p)
  one : Box wr bs 32 (scells st.tm st.level st.held (.slice A st.log.length cap))
  two : Box wr bt 32 (scells st.tm st.level st.held (.slice C st.log.length cap2))
  sl1 : Sl wr 0 A cap st.log
  sl2 : Sl wr 0 C cap2 st.log
theorem Duo.keep {w wr w' : World} {bp bs bt : Nat} {p : Pol} {st : St} {A C : Option Addr} {cap cap2 : Nat} (h : Duo w wr bp bs bt p st A cap C cap2) (hb : Below wr.heap.size wr w') : Duo w w' bp bs bt p st A cap C cap2 :=
  ⟨h.below.trans (hb.mono h.below.size), h.pol.keep hb, h.one.keep hb, h.two.keep hb, h.sl1.keep hb, h.sl2.keep hb⟩
theorem Duo.alloc {w wr : World} {bp bs bt : Nat} {p : Pol} {st : St} {A C : Option Addr} {cap cap2 : Nat} (h : Duo w wr bp bs bt p st A cap C cap2) (o : Obj) : Duo w (wr.alloc o) bp bs bt p st A cap C cap2 :=
  h.keep ((Below.refl _ _).alloc (Nat.le_refl _) _)
theorem Duo.far4 {w wr : World} {bp bs bt g : Nat} {p : Pol} {st : St} {A C : Option Addr} {cap cap2 : Nat} {x y z u : Value} (h : Duo w wr bp bs bt p st A cap C cap2) (hg : Box wr g 32 #[x, y, z, u]) (h0 : w.heap.size ≤ g) (h1 : bp ≠ g) (h2 : bs ≠ g) (h3 : bt ≠ g) (a b c d : Value) :
    Duo w ((((wr.setCell ⟨g, 0, none⟩ a).setCell ⟨g, 1, none⟩ b).setCell ⟨g, 2, none⟩ c).setCell ⟨g, 3, none⟩ d) bp bs bt p st A cap C cap2 :=
  ⟨below_set4 h.below h0 _ _ _ _, h.pol.far4 h1 _ _ _ _, h.one.far4 h2 _ _ _ _, h.two.far4 h3 _ _ _ _, h.sl1.far4 hg _ _ _ _, h.sl2.far4 hg _ _ _ _⟩
/-- both states are made anew -/
theorem Duo.next {w wr : World} {bp bs bt : Nat} {p : Pol} {st t : St} {A C X Y : Option Addr} {cap cap2 cx cy : Nat} (h : Duo w wr bp bs bt p st A cap C cap2) (h0 : w.heap.size ≤ bp) (h1 : bp < bs) (h2 : bs < bt)
    (hX : Sl wr 0 X cx t.log) (hY : Sl wr 0 Y cy t.log) : Duo w ((((((((wr.setCell ⟨bs, 0, none⟩ (.int .i64 t.tm)).setCell ⟨bs, 1, none⟩ (.int .i64 t.level)).setCell ⟨bs, 2, none⟩ (.int .i64 t.held)).setCell ⟨bs, 3, none⟩ (.slice X t.log.length cx)).setCell ⟨bt, 0, none⟩ (.int .i64 t.tm)).setCell ⟨bt, 1, none⟩ (.int .i64 t.level)).setCell ⟨bt, 2, none⟩ (.int .i64 t.held)).setCell ⟨bt, 3, none⟩ (.slice Y t.log.length cy)) bp bs bt p t X cx Y cy := by
  have r2 := h.two.far4 (g := bs) (by omega) (.int .i64 t.tm) (.int .i64 t.level) (.int .i64 t.held) (.slice X t.log.length cx)
  exact ⟨below_set4 (below_set4 h.below (by omega) _ _ _ _) (by omega) _ _ _ _, (h.pol.far4 (by omega) _ _ _ _).far4 (by omega) _ _ _ _, (h.one.set4 _ _ _ _).far4 (by omega) _ _ _ _, r2.set4 _ _ _ _, (hX.far4 h.one _ _ _ _).far4 r2 _ _ _ _, (hY.far4 h.one _ _ _ _).far4 r2 _ _ _ _⟩
theorem rnew_at {p : Pol} {now : Int} {s : St} (h : new p now = s) (w : World) : Calls Try.prog 15 #[p.val, .int .i64 now] w fun e w' => e = .returned (s.val none 0 0) ∧ Below w.heap.size w w' := by
  have := rnew_calls p now w; rw [h] at this; exact this
theorem errno_at {p : Pol} {r : Int} (h : errno (chk p) = r) (w : World) : Calls Try.prog 13 #[p.val] w fun e w' => e = .returned (.int .i64 r) ∧ Below w.heap.size w w' := by
  have := check_calls p w; rw [h] at this; exact this
theorem rerrno_at {p : Pol} {r : Int} (h : errno (chk p) = r) (w : World) : Calls Try.prog 12 #[p.val] w fun e w' => e = .returned (.int .i64 r) ∧ Below w.heap.size w w' := by
  have := rcheck_calls p w; rw [h] at this; exact this

set_option maxHeartbeats 32000000 in
set_option maxRecDepth 100000 in
theorem steps_law (p : Pol) (start : Int) (A0 : Option Addr) (cap0 : Nat) (L : List (Int × Int × Int)) (now cost : Int) (w : World) (hA : Acts w A0 L) :
    Calls Try.prog 3 #[p.val, .int .i64 start, .slice A0 L.length cap0, .int .i64 now, .int .i64 cost] w fun e w' => e = .returned (.bool true) ∧ Below w.heap.size w w' := by
  have HA := Lib.hid hA
  clear hA
  unfold Pol.val
  have HB0 := Lib.hid ((Below.refl w.heap.size w).alloc (Nat.le_refl _) p.box)
  by_cases hs : L.length ≤ 60
  · obtain ⟨er, her⟩ : ∃ r, errno (chk p) = r := ⟨_, rfl⟩
    obtain ⟨s0, hs0⟩ : ∃ s, new p start = s := ⟨_, rfl⟩
    have HER := Lib.hid her
    have HS0 := Lib.hid hs0
    have HL0 := Lib.hid (show s0.log = [] by rw [← hs0]; exact new_log p start)
    clear her hs0
    have BP0 := Lib.hid (Box.new w 23 (pcells p))
    go_enter Try.func3, Try.ntmps3
    go_wp2_with fail
    refine (small_yes hs A0 cap0 _).mono ?_
    rintro e w1 ⟨rfl, rfl⟩
    go_wp2_with fail
    refine (rerrno_at HER.out _).mono ?_
    rintro e v1 ⟨rfl, hb1⟩
    have BP1 := Lib.hid (BP0.out.keep hb1)
    have HB1 := Lib.hid (HB0.out.trans (hb1.mono HB0.out.size))
    clear hb1
    have c10 : v1.cell? ⟨w.heap.size, 0, none⟩ = some (.int .i64 p.kind) := BP1.out.cell 0
    have c11 : v1.cell? ⟨w.heap.size, 1, none⟩ = some (.int .i64 p.limit) := BP1.out.cell 1
    have c12 : v1.cell? ⟨w.heap.size, 2, none⟩ = some (.int .i64 p.period) := BP1.out.cell 2
    have c13 : v1.cell? ⟨w.heap.size, 3, none⟩ = some (.int .i64 p.burst) := BP1.out.cell 3
    have c14 : v1.cell? ⟨w.heap.size, 4, none⟩ = some (.int .i64 p.cap) := BP1.out.cell 4
    have c15 : v1.cell? ⟨w.heap.size, 5, none⟩ = some (.bool p.opn) := BP1.out.cell 5
    go_wp2_with fail
    refine (errno_at HER.out _).mono ?_
    rintro e v2 ⟨rfl, hb2⟩
    have BP2 := Lib.hid (BP1.out.keep hb2)
    have HB2 := Lib.hid (HB1.out.trans (hb2.mono HB1.out.size))
    clear hb2 c10 c11 c12 c13 c14 c15
    have c20 : v2.cell? ⟨w.heap.size, 0, none⟩ = some (.int .i64 p.kind) := BP2.out.cell 0
    have c21 : v2.cell? ⟨w.heap.size, 1, none⟩ = some (.int .i64 p.limit) := BP2.out.cell 1
    have c22 : v2.cell? ⟨w.heap.size, 2, none⟩ = some (.int .i64 p.period) := BP2.out.cell 2
    have c23 : v2.cell? ⟨w.heap.size, 3, none⟩ = some (.int .i64 p.burst) := BP2.out.cell 3
    have c24 : v2.cell? ⟨w.heap.size, 4, none⟩ = some (.int .i64 p.cap) := BP2.out.cell 4
    have c25 : v2.cell? ⟨w.heap.size, 5, none⟩ = some (.bool p.opn) := BP2.out.cell 5
    go_wp2_with fail
    refine (new_at HS0.out _).mono ?_
    rintro e v3 ⟨rfl, hb3⟩
    have BP3 := Lib.hid ((BP2.out.keep hb3).alloc (.cells (scells s0.tm s0.level s0.held (.slice none 0 0)) 32))
    have BS3 := Lib.hid (Box.new v3 32 (scells s0.tm s0.level s0.held (.slice none 0 0)))
    have HB3 := Lib.hid ((HB2.out.trans (hb3.mono HB2.out.size)).alloc (Nat.le_trans HB2.out.size hb3.size) (.cells (scells s0.tm s0.level s0.held (.slice none 0 0)) 32))
    have z3 : w.heap.size < v3.heap.size := Nat.lt_of_lt_of_le BP2.out.lt hb3.size
    clear hb3 c20 c21 c22 c23 c24 c25
    have c30 : (v3.alloc (.cells (scells s0.tm s0.level s0.held (.slice none 0 0)) 32)).cell? ⟨w.heap.size, 0, none⟩ = some (.int .i64 p.kind) := BP3.out.cell 0
    have c31 : (v3.alloc (.cells (scells s0.tm s0.level s0.held (.slice none 0 0)) 32)).cell? ⟨w.heap.size, 1, none⟩ = some (.int .i64 p.limit) := BP3.out.cell 1
    have c32 : (v3.alloc (.cells (scells s0.tm s0.level s0.held (.slice none 0 0)) 32)).cell? ⟨w.heap.size, 2, none⟩ = some (.int .i64 p.period) := BP3.out.cell 2
    have c33 : (v3.alloc (.cells (scells s0.tm s0.level s0.held (.slice none 0 0)) 32)).cell? ⟨w.heap.size, 3, none⟩ = some (.int .i64 p.burst) := BP3.out.cell 3
    have c34 : (v3.alloc (.cells (scells s0.tm s0.level s0.held (.slice none 0 0)) 32)).cell? ⟨w.heap.size, 4, none⟩ = some (.int .i64 p.cap) := BP3.out.cell 4
    have c35 : (v3.alloc (.cells (scells s0.tm s0.level s0.held (.slice none 0 0)) 32)).cell? ⟨w.heap.size, 5, none⟩ = some (.bool p.opn) := BP3.out.cell 5
    go_wp2_with fail
    refine (rnew_at HS0.out _).mono ?_
    rintro e v4 ⟨rfl, hb4⟩
    have BP4 := Lib.hid ((BP3.out.keep hb4).alloc (.cells (scells s0.tm s0.level s0.held (.slice none 0 0)) 32))
    have BS4 := Lib.hid ((BS3.out.keep hb4).alloc (.cells (scells s0.tm s0.level s0.held (.slice none 0 0)) 32))
    have BT4 := Lib.hid (Box.new v4 32 (scells s0.tm s0.level s0.held (.slice none 0 0)))
    have HB4 := Lib.hid ((HB3.out.trans (hb4.mono HB3.out.size)).alloc (Nat.le_trans HB3.out.size hb4.size) (.cells (scells s0.tm s0.level s0.held (.slice none 0 0)) 32))
    have z4 : v3.heap.size < v4.heap.size := Nat.lt_of_lt_of_le BS3.out.lt hb4.size
    clear hb4 c30 c31 c32 c33 c34 c35
    go_wp2_with fail
    generalize v4.alloc (.cells (scells s0.tm s0.level s0.held (.slice none 0 0)) 32) = V at BP4 BS4 BT4 HB4 ⊢
    generalize v4.heap.size = bt at BT4 z4 ⊢
    generalize v3.heap.size = bs at BS4 z3 z4 ⊢
    have HZ := Lib.hid (Nat.le_refl w.heap.size)
    have BP4 := Lib.hid (show Box V w.heap.size 23 (pcells p) from BP4.out)
    have HB4 := Lib.hid (show Below w.heap.size w V from HB4.out)
    clear BP3 BS3 HB3 BP2 HB2 BP1 HB1 BP0 HB0
    obtain ⟨bp, ebp⟩ : ∃ b, w.heap.size = b := ⟨_, rfl⟩
    have HEB := Lib.hid ebp
    have BP4 := Lib.hid (show Box V bp 23 (pcells p) by rw [← ebp]; exact BP4.out)
    rw [ebp] at z3 ⊢
    clear ebp
    go_loopg [14] L.length (fun g i wr => ∃ (k : Nat) (st : St) (A : Option Addr) (cap : Nat) (C : Option Addr) (cap2 : Nat), k ≤ L.length ∧ g = L.length - k ∧ i = .int .i64 k ∧ st.log.length ≤ 100 ∧ Hid (Duo w wr bp bs bt p st A cap C cap2))
    case atStart => exact ⟨0, s0, none, 0, none, 0, Nat.zero_le _, rfl, rfl, by rw [HL0.out]; exact Nat.zero_le _, HB4.out, BP4.out, by rw [HL0.out]; exact BS4.out, by rw [HL0.out]; exact BT4.out, by rw [HL0.out]; exact Sl.nil _ _, by rw [HL0.out]; exact Sl.nil _ _⟩
    case round =>
      obtain ⟨k, st, A, cap, C, cap2, hk, hg, rfl, hlen, HD0⟩ := hrel
      have HD0 := Lib.hid (show Duo w wr bp bs bt p st A cap C cap2 from HD0)
      have HG := Lib.hid hg
      have HLEN := Lib.hid hlen
      have HLE := Lib.hid (show st.log.length ≤ 1000000 by omega)
      clear hg hlen
      have p0 : wr.cell? ⟨bp, 0, none⟩ = some (.int .i64 p.kind) := HD0.out.pol.cell 0
      have p1 : wr.cell? ⟨bp, 1, none⟩ = some (.int .i64 p.limit) := HD0.out.pol.cell 1
      have p2 : wr.cell? ⟨bp, 2, none⟩ = some (.int .i64 p.period) := HD0.out.pol.cell 2
      have p3 : wr.cell? ⟨bp, 3, none⟩ = some (.int .i64 p.burst) := HD0.out.pol.cell 3
      have p4 : wr.cell? ⟨bp, 4, none⟩ = some (.int .i64 p.cap) := HD0.out.pol.cell 4
      have p5 : wr.cell? ⟨bp, 5, none⟩ = some (.bool p.opn) := HD0.out.pol.cell 5
      have s0 : wr.cell? ⟨bs, 0, none⟩ = some (.int .i64 (st).tm) := HD0.out.one.cell 0
      have s1 : wr.cell? ⟨bs, 1, none⟩ = some (.int .i64 (st).level) := HD0.out.one.cell 1
      have s2 : wr.cell? ⟨bs, 2, none⟩ = some (.int .i64 (st).held) := HD0.out.one.cell 2
      have s3 : wr.cell? ⟨bs, 3, none⟩ = some (.slice A (st).log.length cap) := HD0.out.one.cell 3
      have t0 : wr.cell? ⟨bt, 0, none⟩ = some (.int .i64 (st).tm) := HD0.out.two.cell 0
      have t1 : wr.cell? ⟨bt, 1, none⟩ = some (.int .i64 (st).level) := HD0.out.two.cell 1
      have t2 : wr.cell? ⟨bt, 2, none⟩ = some (.int .i64 (st).held) := HD0.out.two.cell 2
      have t3 : wr.cell? ⟨bt, 3, none⟩ = some (.slice C (st).log.length cap2) := HD0.out.two.cell 3
      by_cases hlt : k < L.length
      · obtain ⟨t, b, hact⟩ : ∃ t b, (act p st L[k].1 L[k].2.1 L[k].2.2) = (t, b) := ⟨_, _, rfl⟩
        have HACT := Lib.hid hact
        clear hact
        go_wp2_with fail
        refine (like_calls p st A C cap cap2 now cost _ HD0.out.sl1.ents HD0.out.sl1.cap HD0.out.sl2.ents HLE.out).mono ?_
        rintro e wa ⟨rfl, hba⟩
        have HD := Lib.hid (HD0.out.keep hba)
        clear hba p0 p1 p2 p3 p4 p5 s0 s1 s2 s3 t0 t1 t2 t3
        have HAr := Lib.hid (HA.out.keep HD.out.below)
        have p0 : wa.cell? ⟨bp, 0, none⟩ = some (.int .i64 p.kind) := HD.out.pol.cell 0
        have p1 : wa.cell? ⟨bp, 1, none⟩ = some (.int .i64 p.limit) := HD.out.pol.cell 1
        have p2 : wa.cell? ⟨bp, 2, none⟩ = some (.int .i64 p.period) := HD.out.pol.cell 2
        have p3 : wa.cell? ⟨bp, 3, none⟩ = some (.int .i64 p.burst) := HD.out.pol.cell 3
        have p4 : wa.cell? ⟨bp, 4, none⟩ = some (.int .i64 p.cap) := HD.out.pol.cell 4
        have p5 : wa.cell? ⟨bp, 5, none⟩ = some (.bool p.opn) := HD.out.pol.cell 5
        have s0 : wa.cell? ⟨bs, 0, none⟩ = some (.int .i64 (st).tm) := HD.out.one.cell 0
        have s1 : wa.cell? ⟨bs, 1, none⟩ = some (.int .i64 (st).level) := HD.out.one.cell 1
        have s2 : wa.cell? ⟨bs, 2, none⟩ = some (.int .i64 (st).held) := HD.out.one.cell 2
        have s3 : wa.cell? ⟨bs, 3, none⟩ = some (.slice A (st).log.length cap) := HD.out.one.cell 3
        obtain ⟨a, rfl, c1, c2, c3⟩ := HAr.out.at_ hlt
        have zp := HD.out.pol.lt
        have zs := HD.out.one.lt
        have zt := HD.out.two.lt
        have zn1 : ¬ (wa.heap.size = bp) := by omega
        have zn2 : ¬ (wa.heap.size = bs) := by omega
        have zn4 : ¬ (wa.heap.size = bt) := by omega
        have zn3 : ¬ (wa.heap.size = (a.add (k * 3)).block) := fun h => by have := World.block_lt_of_cell? wa _ c1; omega
        have hz0 : w.heap.size ≤ wa.heap.size := HD.out.below.size
        have i1 : (k : Int) < (L.length : Int) := by omega
        go_wp2_with fail
        go_cut [15, 16] (fun s15 s16 w4 => ∃ (b1 : Nat) (X : Option Addr) (cx : Nat), s15 = .pointer (some ⟨b1, 0, none⟩) ∧ s16 = .bool b ∧ Hid (Duo w w4 bp bs bt p st A cap C cap2 ∧ Box w4 b1 32 (scells t.tm t.level t.held (.slice X t.log.length cx)) ∧ Sl w4 0 X cx t.log ∧ b1 ≠ bp ∧ b1 ≠ bs ∧ b1 ≠ bt))
        case first =>
          go_region_held3 (fun w' => w'.cell? ⟨bp, 0, none⟩ = some (.int .i64 p.kind) ∧ w'.cell? ⟨bp, 1, none⟩ = some (.int .i64 p.limit) ∧ w'.cell? ⟨bp, 2, none⟩ = some (.int .i64 p.period) ∧ w'.cell? ⟨bp, 3, none⟩ = some (.int .i64 p.burst) ∧ w'.cell? ⟨bp, 4, none⟩ = some (.int .i64 p.cap) ∧ w'.cell? ⟨bp, 5, none⟩ = some (.bool p.opn) ∧ w'.cell? ⟨bs, 0, none⟩ = some (.int .i64 (st).tm) ∧ w'.cell? ⟨bs, 1, none⟩ = some (.int .i64 (st).level) ∧ w'.cell? ⟨bs, 2, none⟩ = some (.int .i64 (st).held) ∧ w'.cell? ⟨bs, 3, none⟩ = some (.slice A (st).log.length cap) ∧ w'.cell? (a.add (k * 3)) = some (.int .i64 L[k].1) ∧ w'.cell? ⟨(a.add (k * 3)).block, (a.add (k * 3)).off + 1, none⟩ = some (.int .i64 L[k].2.1) ∧ w'.cell? ⟨(a.add (k * 3)).block, (a.add (k * 3)).off + 2, none⟩ = some (.int .i64 L[k].2.2)) (go_keep) (first | (go_at_call 17; refine (wdo_is HACT.out A cap _ ?_ HD.out.sl1.cap).mono ?_; (first | exact HD.out.sl1.ents.keep (Below.refl _ _).drew | exact (HD.out.sl1.ents.alloc _).keep (Below.refl _ _).drew); rintro e w3 ⟨v, rfl, ⟨u, rfl, ho⟩, hb3⟩; obtain ⟨X, cx, rfl, hX⟩ := ho.sl; (first | (have hD3 := Duo.keep HD.out ((Below.refl _ _).drew.trans hb3); have ha3 := Acts.keep HAr.out ((Below.refl _ _).drew.trans hb3)) | (have hD3 := Duo.keep (Duo.alloc HD.out _) ((Below.refl _ _).drew.trans hb3); have ha3 := Acts.keep (Acts.alloc HAr.out _) ((Below.refl _ _).drew.trans hb3); have rz3 := Box.keep (Box.drew (Box.new wa 32 (scells 0 0 0 (.slice none 0 0)))) hb3; have x0 : w3.cell? ⟨wa.heap.size, 0, none⟩ = some (.int .i64 0) := rz3.cell 0; have x1 : w3.cell? ⟨wa.heap.size, 1, none⟩ = some (.int .i64 0) := rz3.cell 1; have x2 : w3.cell? ⟨wa.heap.size, 2, none⟩ = some (.int .i64 0) := rz3.cell 2; have x3 : w3.cell? ⟨wa.heap.size, 3, none⟩ = some (.slice none 0 0) := rz3.cell 3; have xf0 := rz3.free 0; have xf1 := rz3.free 1; have xf2 := rz3.free 2; have xf3 := rz3.free 3)); obtain ⟨a3, ha3e, y1, y2, y3⟩ := ha3.at_ hlt; injection ha3e with ha3e; subst ha3e; have f0 : w3.cell? ⟨bp, 0, none⟩ = some (.int .i64 p.kind) := hD3.pol.cell 0; have f1 : w3.cell? ⟨bp, 1, none⟩ = some (.int .i64 p.limit) := hD3.pol.cell 1; have f2 : w3.cell? ⟨bp, 2, none⟩ = some (.int .i64 p.period) := hD3.pol.cell 2; have f3 : w3.cell? ⟨bp, 3, none⟩ = some (.int .i64 p.burst) := hD3.pol.cell 3; have f4 : w3.cell? ⟨bp, 4, none⟩ = some (.int .i64 p.cap) := hD3.pol.cell 4; have f5 : w3.cell? ⟨bp, 5, none⟩ = some (.bool p.opn) := hD3.pol.cell 5; have g0 : w3.cell? ⟨bs, 0, none⟩ = some (.int .i64 (st).tm) := hD3.one.cell 0; have g1 : w3.cell? ⟨bs, 1, none⟩ = some (.int .i64 (st).level) := hD3.one.cell 1; have g2 : w3.cell? ⟨bs, 2, none⟩ = some (.int .i64 (st).held) := hD3.one.cell 2; have g3 : w3.cell? ⟨bs, 3, none⟩ = some (.slice A (st).log.length cap) := hD3.one.cell 3))
          all_goals (go_wp2_with fail; go_meet)
          case rel => exact ⟨_, X, cx, rfl, rfl, hD3.alloc _, Box.new _ _ _, (hX.mono (Nat.zero_le _)).alloc _, Nat.ne_of_gt hD3.pol.lt, Nat.ne_of_gt hD3.one.lt, Nat.ne_of_gt hD3.two.lt⟩
          case rel => exact ⟨_, X, cx, rfl, rfl, hD3.far4 rz3 hz0 (Ne.symm zn1) (Ne.symm zn2) (Ne.symm zn4) _ _ _ _, rz3.set4 _ _ _ _, (hX.mono (Nat.zero_le _)).far4 rz3 _ _ _ _, zn1, zn2, zn4⟩
        case rest =>
          obtain ⟨we, rfl⟩ : ∃ we : World, we = wc := ⟨_, rfl⟩
          obtain ⟨b1, X, cx, rfl, rfl, hcut⟩ := hcut
          have HC1 := Lib.hid (show Duo w we bp bs bt p st A cap C cap2 ∧ Box we b1 32 (scells t.tm t.level t.held (.slice X t.log.length cx)) ∧ Sl we 0 X cx t.log ∧ b1 ≠ bp ∧ b1 ≠ bs ∧ b1 ≠ bt from hcut)
          clear hcut
          have HDa := HD
          clear HD HAr c1 c2 c3 zp zs zt zn1 zn2 zn3 zn4 hz0 p0 p1 p2 p3 p4 p5 s0 s1 s2 s3
          have HD := Lib.hid HC1.out.1
          have HAr := Lib.hid (HA.out.keep HD.out.below)
          have p0 : we.cell? ⟨bp, 0, none⟩ = some (.int .i64 p.kind) := HD.out.pol.cell 0
          have p1 : we.cell? ⟨bp, 1, none⟩ = some (.int .i64 p.limit) := HD.out.pol.cell 1
          have p2 : we.cell? ⟨bp, 2, none⟩ = some (.int .i64 p.period) := HD.out.pol.cell 2
          have p3 : we.cell? ⟨bp, 3, none⟩ = some (.int .i64 p.burst) := HD.out.pol.cell 3
          have p4 : we.cell? ⟨bp, 4, none⟩ = some (.int .i64 p.cap) := HD.out.pol.cell 4
          have p5 : we.cell? ⟨bp, 5, none⟩ = some (.bool p.opn) := HD.out.pol.cell 5
          have t0 : we.cell? ⟨bt, 0, none⟩ = some (.int .i64 (st).tm) := HD.out.two.cell 0
          have t1 : we.cell? ⟨bt, 1, none⟩ = some (.int .i64 (st).level) := HD.out.two.cell 1
          have t2 : we.cell? ⟨bt, 2, none⟩ = some (.int .i64 (st).held) := HD.out.two.cell 2
          have t3 : we.cell? ⟨bt, 3, none⟩ = some (.slice C (st).log.length cap2) := HD.out.two.cell 3
          obtain ⟨a', ha', c1, c2, c3⟩ := HAr.out.at_ hlt
          injection ha' with ha'
          subst ha'
          have zp := HD.out.pol.lt
          have zs := HD.out.one.lt
          have zt := HD.out.two.lt
          have z1 := HC1.out.2.1.lt
          have zn1 : ¬ (we.heap.size = bp) := by omega
          have zn2 : ¬ (we.heap.size = bs) := by omega
          have zn4 : ¬ (we.heap.size = bt) := by omega
          have zn5 : ¬ (we.heap.size = b1) := by omega
          have zn3 : ¬ (we.heap.size = (a.add (k * 3)).block) := fun h => by have := World.block_lt_of_cell? we _ c1; omega
          have hz0 : w.heap.size ≤ we.heap.size := HD.out.below.size
          go_wp2_with fail
          go_cut [17, 18] (fun s17 s18 w4 => ∃ (b2 : Nat) (Y : Option Addr) (cy : Nat), s17 = .pointer (some ⟨b2, 0, none⟩) ∧ s18 = .bool b ∧ Hid (Duo w w4 bp bs bt p st A cap C cap2 ∧ Box w4 b1 32 (scells t.tm t.level t.held (.slice X t.log.length cx)) ∧ Sl w4 0 X cx t.log ∧ Box w4 b2 32 (scells t.tm t.level t.held (.slice Y t.log.length cy)) ∧ Sl w4 0 Y cy t.log ∧ b2 ≠ bs ∧ b2 ≠ bt))
          case first =>
            go_region_held3 (fun w' => w'.cell? ⟨bp, 0, none⟩ = some (.int .i64 p.kind) ∧ w'.cell? ⟨bp, 1, none⟩ = some (.int .i64 p.limit) ∧ w'.cell? ⟨bp, 2, none⟩ = some (.int .i64 p.period) ∧ w'.cell? ⟨bp, 3, none⟩ = some (.int .i64 p.burst) ∧ w'.cell? ⟨bp, 4, none⟩ = some (.int .i64 p.cap) ∧ w'.cell? ⟨bp, 5, none⟩ = some (.bool p.opn) ∧ w'.cell? ⟨bt, 0, none⟩ = some (.int .i64 (st).tm) ∧ w'.cell? ⟨bt, 1, none⟩ = some (.int .i64 (st).level) ∧ w'.cell? ⟨bt, 2, none⟩ = some (.int .i64 (st).held) ∧ w'.cell? ⟨bt, 3, none⟩ = some (.slice C (st).log.length cap2) ∧ w'.cell? (a.add (k * 3)) = some (.int .i64 L[k].1) ∧ w'.cell? ⟨(a.add (k * 3)).block, (a.add (k * 3)).off + 1, none⟩ = some (.int .i64 L[k].2.1) ∧ w'.cell? ⟨(a.add (k * 3)).block, (a.add (k * 3)).off + 2, none⟩ = some (.int .i64 L[k].2.2)) (go_keep) (first | (go_at_call 18; refine (rdo_sl HACT.out C cap2 _ ?_).mono ?_; (first | exact HD.out.sl2.keep (Below.refl _ _).drew | exact (HD.out.sl2.alloc _).keep (Below.refl _ _).drew); rintro e w3 ⟨Y, cy, rfl, hY, hb3⟩; (first | (have hD3 := Duo.keep HD.out ((Below.refl _ _).drew.trans hb3); have ha3 := Acts.keep HAr.out ((Below.refl _ _).drew.trans hb3); have r13 := Box.keep (HC1.out.2.1) ((Below.refl _ _).drew.trans hb3); have hx3 := Sl.keep (HC1.out.2.2.1) ((Below.refl _ _).drew.trans hb3)) | (have hD3 := Duo.keep (Duo.alloc HD.out _) ((Below.refl _ _).drew.trans hb3); have ha3 := Acts.keep (Acts.alloc HAr.out _) ((Below.refl _ _).drew.trans hb3); have rz3 := Box.keep (Box.drew (Box.new we 32 (scells 0 0 0 (.slice none 0 0)))) hb3; have r13 := Box.keep (HC1.out.2.1.alloc _) ((Below.refl _ _).drew.trans hb3); have hx3 := Sl.keep (HC1.out.2.2.1.alloc _) ((Below.refl _ _).drew.trans hb3); have x0 : w3.cell? ⟨we.heap.size, 0, none⟩ = some (.int .i64 0) := rz3.cell 0; have x1 : w3.cell? ⟨we.heap.size, 1, none⟩ = some (.int .i64 0) := rz3.cell 1; have x2 : w3.cell? ⟨we.heap.size, 2, none⟩ = some (.int .i64 0) := rz3.cell 2; have x3 : w3.cell? ⟨we.heap.size, 3, none⟩ = some (.slice none 0 0) := rz3.cell 3; have xf0 := rz3.free 0; have xf1 := rz3.free 1; have xf2 := rz3.free 2; have xf3 := rz3.free 3)); obtain ⟨a3, ha3e, y1, y2, y3⟩ := ha3.at_ hlt; injection ha3e with ha3e; subst ha3e; have f0 : w3.cell? ⟨bp, 0, none⟩ = some (.int .i64 p.kind) := hD3.pol.cell 0; have f1 : w3.cell? ⟨bp, 1, none⟩ = some (.int .i64 p.limit) := hD3.pol.cell 1; have f2 : w3.cell? ⟨bp, 2, none⟩ = some (.int .i64 p.period) := hD3.pol.cell 2; have f3 : w3.cell? ⟨bp, 3, none⟩ = some (.int .i64 p.burst) := hD3.pol.cell 3; have f4 : w3.cell? ⟨bp, 4, none⟩ = some (.int .i64 p.cap) := hD3.pol.cell 4; have f5 : w3.cell? ⟨bp, 5, none⟩ = some (.bool p.opn) := hD3.pol.cell 5; have g0 : w3.cell? ⟨bt, 0, none⟩ = some (.int .i64 (st).tm) := hD3.two.cell 0; have g1 : w3.cell? ⟨bt, 1, none⟩ = some (.int .i64 (st).level) := hD3.two.cell 1; have g2 : w3.cell? ⟨bt, 2, none⟩ = some (.int .i64 (st).held) := hD3.two.cell 2; have g3 : w3.cell? ⟨bt, 3, none⟩ = some (.slice C (st).log.length cap2) := hD3.two.cell 3))
            all_goals (go_wp2_with fail; go_meet)
            case rel => exact ⟨_, Y, cy, rfl, rfl, hD3.alloc _, r13.alloc _, hx3.alloc _, Box.new _ _ _, hY.alloc _, Nat.ne_of_gt hD3.one.lt, Nat.ne_of_gt hD3.two.lt⟩
            case rel => exact ⟨_, Y, cy, rfl, rfl, hD3.far4 rz3 hz0 (Ne.symm zn1) (Ne.symm zn2) (Ne.symm zn4) _ _ _ _, r13.far4 (Ne.symm zn5) _ _ _ _, hx3.far4 rz3 _ _ _ _, rz3.set4 _ _ _ _, hY.far4 rz3 _ _ _ _, zn2, zn4⟩
          case rest =>
            obtain ⟨b2, Y, cy, rfl, rfl, hcut⟩ := hcut
            have HC2 := Lib.hid (show Duo w wc bp bs bt p st A cap C cap2 ∧ Box wc b1 32 (scells t.tm t.level t.held (.slice X t.log.length cx)) ∧ Sl wc 0 X cx t.log ∧ Box wc b2 32 (scells t.tm t.level t.held (.slice Y t.log.length cy)) ∧ Sl wc 0 Y cy t.log ∧ b2 ≠ bs ∧ b2 ≠ bt from hcut)
            clear hcut HAr HD c1 c2 c3 zp zs zt z1 zn1 zn2 zn3 zn4 zn5 hz0 p0 p1 p2 p3 p4 p5 t0 t1 t2 t3
            have m0 : wc.cell? ⟨b1, 0, none⟩ = some (.int .i64 (t).tm) := HC2.out.2.1.cell 0
            have m1 : wc.cell? ⟨b1, 1, none⟩ = some (.int .i64 (t).level) := HC2.out.2.1.cell 1
            have m2 : wc.cell? ⟨b1, 2, none⟩ = some (.int .i64 (t).held) := HC2.out.2.1.cell 2
            have m3 : wc.cell? ⟨b1, 3, none⟩ = some (.slice X (t).log.length cx) := HC2.out.2.1.cell 3
            have n0 : wc.cell? ⟨b2, 0, none⟩ = some (.int .i64 (t).tm) := HC2.out.2.2.2.1.cell 0
            have n1 : wc.cell? ⟨b2, 1, none⟩ = some (.int .i64 (t).level) := HC2.out.2.2.2.1.cell 1
            have n2 : wc.cell? ⟨b2, 2, none⟩ = some (.int .i64 (t).held) := HC2.out.2.2.2.1.cell 2
            have n3 : wc.cell? ⟨b2, 3, none⟩ = some (.slice Y (t).log.length cy) := HC2.out.2.2.2.1.cell 3
            have s0 : wc.cell? ⟨bs, 0, none⟩ = some (.int .i64 (st).tm) := HC2.out.1.one.cell 0
            have s1 : wc.cell? ⟨bs, 1, none⟩ = some (.int .i64 (st).level) := HC2.out.1.one.cell 1
            have s2 : wc.cell? ⟨bs, 2, none⟩ = some (.int .i64 (st).held) := HC2.out.1.one.cell 2
            have s3 : wc.cell? ⟨bs, 3, none⟩ = some (.slice A (st).log.length cap) := HC2.out.1.one.cell 3
            have sf0 := HC2.out.1.one.free 0
            have sf1 := HC2.out.1.one.free 1
            have sf2 := HC2.out.1.one.free 2
            have sf3 := HC2.out.1.one.free 3
            have t0 : wc.cell? ⟨bt, 0, none⟩ = some (.int .i64 (st).tm) := HC2.out.1.two.cell 0
            have t1 : wc.cell? ⟨bt, 1, none⟩ = some (.int .i64 (st).level) := HC2.out.1.two.cell 1
            have t2 : wc.cell? ⟨bt, 2, none⟩ = some (.int .i64 (st).held) := HC2.out.1.two.cell 2
            have t3 : wc.cell? ⟨bt, 3, none⟩ = some (.slice C (st).log.length cap2) := HC2.out.1.two.cell 3
            have tf0 := HC2.out.1.two.free 0
            have tf1 := HC2.out.1.two.free 1
            have tf2 := HC2.out.1.two.free 2
            have tf3 := HC2.out.1.two.free 3
            have zb0 := HC2.out.2.2.2.2.2.1
            have zb1 := HC2.out.2.2.2.2.2.2
            have zb2 : ¬ (bs = b2) := fun e => zb0 e.symm
            have zb3 : ¬ (b2 = bs) := zb0
            have zb4 : ¬ (bs = bt) := by omega
            have zb5 : ¬ (bt = bs) := by omega
            go_wp2_with fail
            go_roundg (gk - 1)
            case rel => exact ⟨k + 1, t, X, cx, Y, cy, by omega, by have := HG.out; omega, by go_num, act_len HACT.out, HC2.out.1.next (Nat.le_of_eq HEB.out) z3 z4 HC2.out.2.2.1 HC2.out.2.2.2.2.1⟩
            case measure => have := HG.out; omega
      · go_wp2_with fail
        refine (like_calls p st A C cap cap2 now cost _ HD0.out.sl1.ents HD0.out.sl1.cap HD0.out.sl2.ents HLE.out).mono ?_
        rintro e wa ⟨rfl, hba⟩
        have HBa := Lib.hid (HD0.out.below.trans (hba.mono HD0.out.below.size))
        clear hba
        go_wp2_with fail
        refine (known_calls _).mono ?_
        rintro e wb ⟨rfl, hbb⟩
        have HBb := Lib.hid (HBa.out.trans (hbb.mono HBa.out.size))
        clear hbb
        go_wp2_with fail
        go_ret
        exact ⟨rfl, HBb.out⟩
  · go_enter Try.func3, Try.ntmps3
    go_wp2_with fail
    refine (small_no hs A0 cap0 _).mono ?_
    rintro e w1 ⟨rfl, rfl⟩
    go_wp2_with fail
    refine (known_calls _).mono ?_
    rintro e w1 ⟨rfl, hb1⟩
    have HB1 := Lib.hid (HB0.out.trans (hb1.mono HB0.out.size))
    clear hb1
    go_wp2_with fail
    go_ret
    exact ⟨rfl, HB1.out⟩
end Wn
end Go.Proofs.Ytikfjdpkjifcdaa
