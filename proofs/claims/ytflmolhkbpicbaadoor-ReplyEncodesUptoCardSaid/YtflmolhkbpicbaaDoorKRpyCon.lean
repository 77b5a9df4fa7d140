/-
  The program's own reply keeps what the laws' walks ask.
-/
import Derived.Test.YtflmolhkbpicbaaDoorKGYC
import Derived.Test.YtflmolhkbpicbaaDoorKRpyEco
import Derived.Test.YtflmolhkbpicbaaDoorKRpyAlo
namespace Go.Proofs.YtflmolhkbpicbaaDoor.Ry

set_option maxRecDepth 100000 in
theorem plain_line {x : Rep} (h : (plain x).k = 1 ∨ (plain x).k = 2) : x.k = 1 ∨ x.k = 2 := by
  unfold plain at h
  by_cases h1 : x.k = 1
  · exact .inl h1
  by_cases h2 : x.k = 2
  · exact .inr h2
  simp only [if_neg h1, if_neg h2] at h
  repeat' split at h
  all_goals simp at h
set_option maxRecDepth 100000 in
theorem long_l (x : Rep) (h : longR x ≤ 1500) : x.l.length ≤ 65000 := by unfold longR at h; have := txL_len x.l; omega
set_option maxRecDepth 100000 in
theorem yc : YC where
  plain_ := fun x A cap w hA hl _ => (plain_own x A cap w hA (by omega)).mono fun e w' ⟨⟨A', c', he, hr⟩, hb⟩ => ⟨⟨A', c', he, rd4_row (fun q => (hA.tab (plain_line q)).keep hb) hr⟩, hb⟩
  right_ := fun x A cap w hA hl _ => right_own x A cap w hA (by omega)
  same_ := fun x y A C cap cap2 w hA hC hx hy _ _ => same_own x y A C cap cap2 w hA.txs hC.txs (long_l x hx) (long_l y hy)
  encode_ := encode_own
  decode_ := fun A cap l w hA hc hn hl hT => (decode_own A cap l w hA hc hn hl hT).mono fun e w' ⟨h, hb⟩ => ⟨dec_ydec (hT.keep hb) h, hb⟩
  all_ := fun A cap l w hA hc hn hl hT => (all_own A cap l w hA hl hc hn hT).mono fun e w' ⟨h, hb⟩ => ⟨all_yall (hT.keep hb) h, hb⟩
end Go.Proofs.YtflmolhkbpicbaaDoor.Ry
