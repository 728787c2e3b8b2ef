/- What walk answers: the objects of some spaces, or the first error; it only makes memory. Conditions: at most ten spaces. -/
import Derived.Test.YtogfjclmohpjkaaGreatDoorL15Y
namespace Go.Proofs.YtogfjclmohpjkaaGreatDoor.L15
open Go.ChangeShapes Go.WideShapes Go.ChangeAt Go.RowKit Go.Shelf
open Go.Proofs.YtogfjclmohpjkaaGreatDoor.L1 (Sl Ar ptr exB)
open Go.Proofs.YtogfjclmohpjkaaGreatDoor.L4 (hdV riB wd)
open Go.Proofs.YtogfjclmohpjkaaGreatDoor.L5 (Cl clV rtB Tb clAt shX shR shD)
open Go.Proofs.YtogfjclmohpjkaaGreatDoor.L6 (Th th0 stV St fdT fdX obT obX slX slP slV gw Wk)
open Go.Proofs.YtogfjclmohpjkaaGreatDoor.L2 (spV hasB)
set_option linter.unusedVariables false
set_option maxRecDepth 100000

structure Sp where
  F : Int
  T : Int
  E : Int
abbrev Sp.cells (s : Sp) : List Value := [.int .i64 s.F, .int .i64 s.T, .int .i64 s.E]
def spCs (l : List Sp) : List Value := l.flatMap Sp.cells
theorem spCs_get (l : List Sp) (i : Nat) (s : Sp) (h : l[i]? = some s) : (spCs l)[i * 3]? = some (.int .i64 s.F) ∧ (spCs l)[i * 3 + 1]? = some (.int .i64 s.T) ∧ (spCs l)[i * 3 + 2]? = some (.int .i64 s.E) := by
  induction l generalizing i with
  | nil => simp at h
  | cons p l ih =>
    have e : spCs (p :: l) = p.cells ++ spCs l := by simp [spCs]
    rw [e]
    cases i with
    | zero =>
      have h : p = s := by simpa using h
      subst h
      exact ⟨rfl, rfl, rfl⟩
    | succ i =>
      have := ih i (by simpa using h)
      have hl : p.cells.length = 3 := rfl
      refine ⟨?_, ?_, ?_⟩
      · rw [List.getElem?_append_right (by omega), hl, show (i + 1) * 3 - 3 = i * 3 by omega]; exact this.1
      · rw [List.getElem?_append_right (by omega), hl, show (i + 1) * 3 + 1 - 3 = i * 3 + 1 by omega]; exact this.2.1
      · rw [List.getElem?_append_right (by omega), hl, show (i + 1) * 3 + 2 - 3 = i * 3 + 2 by omega]; exact this.2.2
/-- What walking some spaces comes to. -/
def Wks (xs : List Int) (cs : List Cl) : List Sp → List Int → Int → Prop
  | [], L, e => L = [] ∧ e = 0
  | s :: r, L, e => ∃ l e1, Wk xs cs s.T s.F l e1 ∧ ((¬ e1 = 0 ∧ e = e1) ∨ (e1 = 0 ∧ ∃ L2, Wks xs cs r L2 e ∧ L = l ++ L2))
theorem wk_len {xs : List Int} {cs : List Cl} (hrt : cs.all Cl.rt = true) {to i e : Int} {l : List Int} (h : Wk xs cs to i l e) : l = [] ∨ (1 ≤ i ∧ (l.length : Int) ≤ xs.length - i) := by
  induction h with
  | done _ _ => exact .inl rfl
  | bad _ _ _ => exact .inl rfl
  | over _ _ _ _ => exact .inl rfl
  | gap i l e h hx hw hc hr ih =>
    have := L6.fd_bd hrt hx
    rcases ih with rfl | ih
    · exact .inl rfl
    · exact .inr ⟨this.1, by omega⟩
  | obj i l e h hx hw hc hr ih =>
    have := L6.fd_bd hrt hx
    refine .inr ⟨this.1, ?_⟩
    rcases ih with rfl | ih
    · simp; omega
    · simp; omega
theorem wk_len4 {xs : List Int} {cs : List Cl} (hrt : cs.all Cl.rt = true) (hn : xs.length ≤ 4096) {to i e : Int} {l : List Int} (h : Wk xs cs to i l e) : l.length ≤ 4096 := by
  rcases wk_len hrt h with rfl | h
  · simp
  · omega
section
variable {w w' : World} {p tp : Option Addr} {g n m c ga : Nat} {xs L : List Int} {cs : List Cl} {a e : Int} {sps : List Sp}
set_option maxHeartbeats 1000000 in
theorem walk_any (h : St w p tp g xs cs) (hb : Blk w ga 34 (spCs sps)) (hm : sps.length = m) (hm10 : m ≤ 10) (h64 : ∀ s ∈ sps, s.F ≤ 9223372036854775807 ∧ s.T ≤ 9223372036854775807) (hw : Wks xs cs sps L e) :
    Calls Tryz.prog 73 #[stV p tp, .slice (some ⟨ga, 0, none⟩) m c] w fun en w' => Grow w w' ∧ ((e = 0 ∧ ∃ v, en = .returned (.tuple #[v, .int .i64 0]) ∧ OL w' w.heap.size v L) ∨ (¬ e = 0 ∧ en = .returned (.tuple #[.slice none 0 0, .int .i64 e]))) := by
  have hrt := h.rt
  have hn := h.n
  have H := hide h
  have HB := hide hb
  have HM := hide (And.intro hm hm10)
  have H64 := hide h64
  have HW := hide hw
  have HRT := hide (And.intro hrt hn)
  clear h hb hm hm10 h64 hw hrt hn
  obtain ⟨hs, cc, fs⟩ := boxes1 w 32 [.pointer p, .pointer tp]
  have HG := hide fs
  go_enter Tryz.func73, Tryz.ntmps73
  go_wp2_with fail
  generalize w.alloc (.cells #[.pointer p, .pointer tp] 32) = w3 at *
  generalize w.heap.size = s at *
  go_loopw [6, 13] (fun v u wr => ∃ (k : Nat) (acc L2 : List Int), k ≤ m ∧ u = .int .i64 k ∧ Wks xs cs (sps.drop k) L2 e ∧ (e = 0 → L = acc ++ L2) ∧ OL wr w.heap.size v acc ∧ acc.length ≤ k * 4096 ∧ Blk wr s 32 [.pointer p, .pointer tp] ∧ Grow w wr) (fun _ v _ => m - (intOf v).toNat)
  case atStart => exact ⟨0, [], L, Nat.zero_le _, rfl, HW.out, fun _ => rfl, ol_nil _ _, Nat.zero_le _, hs, cc⟩
  case round =>
    clear hs cc fs
    obtain ⟨k, acc, L2, hk, rfl, hwk, hL, hol, hac, hs, cc⟩ := hrel
    have hlen := HM.out.1
    rcases Nat.eq_or_lt_of_le hk with hke | hlt
    · subst hke
      have q1 : decide ((k : Int) < k) = false := by simp
      rw [List.drop_of_length_le (by omega)] at hwk
      obtain ⟨h2, he⟩ := hwk
      have HE := hide he
      have HL := hide (show acc = L by rw [hL he, h2, List.append_nil])
      have HO := hide hol
      clear hol hL hlen hac h2 he
      go_wp2
      go_returns
      exact ⟨cc, .inl ⟨HE.out, _, rfl, by rw [← HL.out]; exact HO.out⟩⟩
    · obtain ⟨sp, hsp⟩ : ∃ sp, sps[k]? = some sp := ⟨_, List.getElem?_eq_getElem (by omega)⟩
      have hmem : sp ∈ sps := List.mem_of_getElem? hsp
      have q1 : decide ((k : Int) < m) = true := decide_eq_true (by omega)
      have q2 : k < m := hlt
      rw [List.drop_eq_getElem_cons (by omega), show sps[k]'(by omega) = sp from (List.getElem?_eq_some_iff.1 hsp).2] at hwk
      obtain ⟨l, e1, hwl, hor⟩ := hwk
      obtain ⟨b1, b2⟩ := H64.out sp hmem
      obtain ⟨F, T, E⟩ := sp
      obtain ⟨x0, x1, x2⟩ := spCs_get sps k _ hsp
      have hBr := HB.out.chg cc id
      have k0 : wr.cell? ⟨ga, k * 3, none⟩ = some (.int .i64 F) := (hBr.cell _).trans x0
      have k1 : wr.cell? ⟨ga, k * 3 + 1, none⟩ = some (.int .i64 T) := (hBr.cell _).trans x1
      have k2 : wr.cell? ⟨ga, k * 3 + 2, none⟩ = some (.int .i64 E) := (hBr.cell _).trans x2
      have HWL := hide hwl
      have HOR := hide hor
      have HLL := hide (wk_len4 HRT.out.1 HRT.out.2 hwl)
      have hw1 : IntKind.i64.wrap ((k : Int) + 1) = ((k + 1 : Nat) : Int) := (IntWalk.i64_in _ (by have := HM.out.2; omega)).trans (by omega)
      have HL := hide hL
      have HAC := hide hac
      have HK := hide q2
      have hB := Blk.new wr 34 [.int .i64 F, .int .i64 T, .int .i64 E]
      have hol' := hol.alloc (.cells [.int .i64 F, .int .i64 T, .int .i64 E].toArray 34)
      replace hs := hs.alloc (.cells [.int .i64 F, .int .i64 T, .int .i64 E].toArray 34)
      replace cc := cc.alloc (.cells [.int .i64 F, .int .i64 T, .int .i64 E].toArray 34)
      obtain ⟨s0, s1⟩ := hs.cell2
      obtain ⟨y0, y1, y2⟩ := hB.cell3
      clear hwl hor hsp hmem x0 x1 x2 hBr hol hL hac hlen
      go_wp2_with fail
      clear s0 s1 y0 y1 y2 k0 k1 k2 hB
      generalize wr.alloc (.cells #[.int .i64 F, .int .i64 T, .int .i64 E] 34) = w5 at *
      generalize wr.heap.size = q at *
      have HOL := hide hol'
      clear hol'
      rcases HOR.out with ⟨hne, hee⟩ | ⟨h0, L3, hwk3, hL2⟩
      · have HE := hide (And.intro hne hee)
        have hx' : (e1 != 0) = true := by simpa using hne
        clear hne hee
        refine (L6.walk_no (H.out.grow cc) b1 b2 HWL.out HE.out.1).mono ?_
        rintro en w6 ⟨rfl, c6⟩
        have HC := hide (cc.trans c6)
        clear cc c6 hs
        go_wp2
        go_returns
        exact ⟨HC.out, .inr ⟨by rw [HE.out.2]; exact HE.out.1, by rw [HE.out.2]; rfl⟩⟩
      · subst h0
        have HW3 := hide hwk3
        have HL2 := hide hL2
        clear hwk3 hL2
        refine (L6.walk_ok (H.out.grow cc) b1 b2 HWL.out).mono ?_
        rintro en w6 ⟨la, lc, rfl, hown, c6⟩
        replace hs := hs.chg c6 id
        replace cc := cc.trans c6
        have ho6 := own_grow HOL.out c6
        have hrd := own_rd hown
        obtain ⟨va, vc, hva⟩ := own_len ho6
        subst hva
        obtain ⟨v', w7, hr, ho7, c7, hg7⟩ := app_more (c0 := lc) cc ho6 hrd (by have := HAC.out; have := HLL.out; have := HM.out.2; have := HK.out; omega)
        have hs7 := hs.grownOwn hg7 (OL.ne ho6 hs (by decide)).symm
        obtain ⟨v2, hv2⟩ : ∃ v2, v2 = v' := ⟨_, rfl⟩
        have HO7 := hide ho7
        have HC7 := hide c7
        have HS7 := hide hs7
        have KA := hide hr
        clear ho6 hrd hown c6 HOL ho7 c7 hg7 hs7 hr hv2 hs cc
        go_wp2_with (at_builtin; refine wpList_app rfl _ _ 37 rfl (.slice va acc.length vc) (.slice la l.length lc) v' _ w7 rfl rfl KA.out ?_)
        go_roundw
        case rel => exact ⟨k + 1, acc ++ l, L3, HK.out, rfl, HW3.out, fun he => by rw [HL.out he, HL2.out, List.append_assoc], HO7.out, by rw [List.length_append]; have := HAC.out; have := HLL.out; omega, HS7.out, HC7.out⟩
        case measure => have := HK.out; simp [intOf]; omega
end
end Go.Proofs.YtogfjclmohpjkaaGreatDoor.L15
