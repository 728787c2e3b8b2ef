/- Lists of classes, and what slices.Clone and New make of them. Conditions: at most 100 classes. -/
import Derived.Test.YtjofdamobnemcaaL5Cl
import Derived.LoopTactic
import Derived.Lib.SliceRun
import Derived.ShutString
namespace Go.Proofs.Ytjofdamobnemcaa.L5
open Go.ChangeShapes Go.WideShapes Go.ChangeAt Go.RowKit
set_option linter.unusedVariables false

abbrev Cl.v (c : Cl) : Value := clV c.k c.r c.d c.f
def Cl.rt (c : Cl) : Bool := rtB c.k c.r c.d c.f
def c0 : Cl := ⟨0, 0, 0, false⟩
def clCells (l : List Cl) : List Value := l.flatMap Cl.cells
theorem clCells_nil : clCells [] = [] := rfl
theorem clCells_cons (c : Cl) (l : List Cl) : clCells (c :: l) = c.cells ++ clCells l := by simp [clCells]
theorem clCells_length (l : List Cl) : (clCells l).length = l.length * 4 := by
  induction l with
  | nil => rfl
  | cons a l ih => rw [clCells_cons, List.length_append, ih]; simp [Cl.cells]; omega
theorem clCells_at (l : List Cl) (i j : Nat) (c : Cl) (h : l[i]? = some c) (hj : j < 4) : (clCells l)[i * 4 + j]? = c.cells[j]? := by
  induction l generalizing i with
  | nil => simp at h
  | cons p l ih =>
    have hp : p.cells.length = 4 := rfl
    cases i with
    | zero =>
      simp at h
      subst h
      rw [clCells_cons, List.getElem?_append_left (by omega)]
      simp
    | succ i =>
      have := ih i (by simpa using h)
      rw [clCells_cons, List.getElem?_append_right (by omega), hp, show (i + 1) * 4 + j - 4 = i * 4 + j by omega]
      exact this
theorem clCells_one (l : List Cl) : ∀ v ∈ clCells l, v.oneCell' = true := by
  intro v hv
  simp only [clCells, List.mem_flatMap, Cl.cells, List.mem_cons, List.not_mem_nil, or_false] at hv
  obtain ⟨c, _, rfl | rfl | rfl | rfl⟩ := hv <;> rfl

/-- The class cells at a place. -/
def At (w : World) (b o : Nat) (c : Cl) : Prop :=
  w.cell? ⟨b, o, none⟩ = some (.int .i64 c.k) ∧ w.cell? ⟨b, o + 1, none⟩ = some (.int .i64 c.r) ∧ w.cell? ⟨b, o + 2, none⟩ = some (.int .i64 c.d) ∧ w.cell? ⟨b, o + 3, none⟩ = some (.bool c.f)
theorem At.chg {S : Nat → Prop} {w w' : World} {b o : Nat} {c : Cl} (h : At w b o c) (k : Chg S w w') (hs : ¬ S b) : At w' b o c :=
  ⟨k.cell h.1 hs, k.cell h.2.1 hs, k.cell h.2.2.1 hs, k.cell h.2.2.2 hs⟩
theorem At.lt {w : World} {b o : Nat} {c : Cl} (h : At w b o c) : b < w.heap.size := cell_lt h.1

/-- A list of classes that came in, or was made. -/
def IsCls (w : World) (a : Option Addr) (len cap : Nat) (cs : List Cl) : Prop :=
  cs.length = len ∧ len ≤ cap ∧ cap ≤ maxLen ∧ (0 < len → ∃ b off, a = some ⟨b, off, none⟩ ∧ ∀ i c, cs[i]? = some c → At w b (off + i * 4) c) ∧ ∀ c ∈ cs, c.r ≤ 9223372036854775807
theorem IsCls.len {w : World} {a : Option Addr} {len cap : Nat} {cs : List Cl} (h : IsCls w a len cap cs) : cs.length = len := h.1
theorem IsCls.chg {S : Nat → Prop} {w w' : World} {a : Option Addr} {len cap : Nat} {cs : List Cl} (h : IsCls w a len cap cs) (k : Chg S w w') (hs : ∀ i, i < w.heap.size → ¬ S i) : IsCls w' a len cap cs := by
  obtain ⟨h1, h2, h3, h4, h5⟩ := h
  refine ⟨h1, h2, h3, fun hl => ?_, h5⟩
  obtain ⟨b, off, rfl, hx⟩ := h4 hl
  refine ⟨b, off, rfl, fun i c hc => ?_⟩
  exact (hx i c hc).chg k (hs _ (hx i c hc).lt)
theorem IsCls.at_ {w : World} {a : Option Addr} {len cap : Nat} {cs : List Cl} (h : IsCls w a len cap cs) {i : Nat} (hi : i < len) :
    ∃ b off c, a = some ⟨b, off, none⟩ ∧ cs[i]? = some c ∧ At w b (off + i * 4) c ∧ c.r ≤ 9223372036854775807 := by
  obtain ⟨h1, h2, h3, h4, h5⟩ := h
  obtain ⟨b, off, rfl, hx⟩ := h4 (by omega)
  have hc : cs[i]? = some (cs[i]'(by omega)) := List.getElem?_eq_getElem _
  exact ⟨b, off, _, rfl, hc, hx i _ hc, h5 _ (List.getElem_mem _)⟩
theorem IsCls.cells {w : World} {a : Option Addr} {len cap : Nat} {cs : List Cl} (h : IsCls w a len cap cs) {x : Addr} (ha : a = some x) : ∀ j u, (clCells cs)[j]? = some u → w.cell? (x.add j) = some u := by
  intro j u hu
  have hj : j < cs.length * 4 := by have := (List.getElem?_eq_some_iff.1 hu).1; rwa [clCells_length] at this
  have hq : j / 4 < len := by have := h.1; omega
  obtain ⟨b, off, c, ha', hc, ⟨e0, e1, e2, e3⟩, _⟩ := h.at_ hq
  rw [ha] at ha'
  injection ha' with ha'
  subst ha'
  have hm : j % 4 < 4 := Nat.mod_lt _ (by decide)
  have := clCells_at cs (j / 4) (j % 4) c hc hm
  rw [show j / 4 * 4 + j % 4 = j by omega, hu] at this
  rw [addr_add, show off + j = off + j / 4 * 4 + j % 4 by omega]
  match hr : j % 4, hm with
  | 0, _ => rw [hr] at this; simp [Cl.cells] at this; subst this; exact e0
  | 1, _ => rw [hr] at this; simp [Cl.cells] at this; subst this; exact e1
  | 2, _ => rw [hr] at this; simp [Cl.cells] at this; subst this; exact e2
  | 3, _ => rw [hr] at this; simp [Cl.cells] at this; subst this; exact e3
theorem IsCls.one {w : World} {g : Nat} {c : Cl} (h : Blk w g 54 [.int .i64 c.k, .int .i64 c.r, .int .i64 c.d, .bool c.f]) (hc : c.r ≤ 9223372036854775807) : IsCls w (some ⟨g, 0, none⟩) 1 1 [c] := by
  refine ⟨rfl, Nat.le_refl _, by simp [maxLen], fun _ => ⟨g, 0, rfl, fun i x hx => ?_⟩, by simpa using hc⟩
  cases i with
  | zero =>
    simp at hx
    subst hx
    exact ⟨h.cell 0, h.cell 1, h.cell 2, h.cell 3⟩
  | succ i => simp at hx
theorem fits_cl {cs : List Value} (h : fits [some .i64, some .i64, some .i64, none] cs) : ∃ c : Cl, cs = [.int .i64 c.k, .int .i64 c.r, .int .i64 c.d, .bool c.f] ∧ c.r ≤ 9223372036854775807 := by
  obtain ⟨K, c1, rfl, hK, h1⟩ := fits_int h
  obtain ⟨R, c2, rfl, hR, h2⟩ := fits_int h1
  obtain ⟨D, c3, rfl, hD, h3⟩ := fits_int h2
  obtain ⟨f, c4, rfl, h4⟩ := fits_bool h3
  obtain rfl := fits_nil h4
  exact ⟨⟨K, R, D, f⟩, rfl, (bounds_i64 hR).2⟩
theorem _root_.Go.Proofs.Ytjofdamobnemcaa.IsRecs.cls {w : World} {a : Option Addr} {len cap : Nat} {rows : List (List Value)} (h : IsRecs [some .i64, some .i64, some .i64, none] w a len cap rows) : ∃ cs, IsCls w a len cap cs := by
  obtain ⟨h1, h2, h3, h4, h5⟩ := h
  obtain ⟨cs, hl, hq⟩ := list_of (fun i (c : Cl) => rows.getD i [] = [.int .i64 c.k, .int .i64 c.r, .int .i64 c.d, .bool c.f] ∧ c.r ≤ 9223372036854775807) c0 len (fun i hi => fits_cl (h5 i hi))
  refine ⟨cs, hl, h2, h3, fun h0 => ?_, fun c hc => ?_⟩
  · obtain ⟨b, off, rfl, hx⟩ := h4 h0
    refine ⟨b, off, rfl, fun i c hc => ?_⟩
    have hi : i < len := by rw [← hl]; exact (List.getElem?_eq_some_iff.1 hc).1
    obtain ⟨e, _⟩ := hq i hi
    rw [show cs.getD i c0 = c by rw [List.getD_eq_getElem?_getD, hc]; rfl] at e
    have hx' := hx i hi
    rw [e] at hx'
    exact ⟨hx' 0 _ rfl, hx' 1 _ rfl, hx' 2 _ rfl, hx' 3 _ rfl⟩
  · obtain ⟨i, hi, rfl⟩ := List.getElem_of_mem hc
    have := (hq i (by omega)).2
    simpa [List.getD_eq_getElem?_getD, hi] using this

theorem Try.infoCl : (Try.prog.info? 54).map (fun i => (i.zero, i.size, i.bytes)) = some (some (clV 0 0 0 false), 4, 32) := by kernel_rfl

set_option maxHeartbeats 1000000 in
theorem clone_any (a : Option Addr) (len cap : Nat) (cs : List Cl) (w : World) (h : IsCls w a len cap cs) (hl : len ≤ 100) :
    Calls Try.prog 30 #[.slice a len cap] w fun e w' => ∃ v, e = .returned v ∧ w'.ownsRow w.heap.size 54 4 v cs.length (clCells cs) ∧ Grow w w' := by
  have H := hide h
  clear h
  have q : ∀ (w : World) (a : Option Addr) (n c n' c' : Nat), (binOp .eql 22 (.slice a n c) (.slice none n' c')).run Try.prog w = .ok (.bool a.isNone) w := fun w a n c n' c' => Lib.run_eql_slice_nil w _ _ a n c n' c' Try.underlying22
  cases a with
  | none =>
    have h0 : len = 0 := by
      rcases Nat.eq_zero_or_pos len with h | h
      · exact h
      · obtain ⟨b, off, c, h', _⟩ := H.out.at_ h
        cases h'
    subst h0
    have hc : cs = [] := List.eq_nil_of_length_eq_zero H.out.1
    subst hc
    go_enter Try.func30, Try.ntmps30
    go_wp2
    go_ret
    exact ⟨_, rfl, World.ownsRow_nil _ _ _ _, Chg.refl _ _⟩
  | some x =>
    obtain ⟨i0, hi0, hz0, hz1, hz2⟩ := info_parts Try.infoCl
    have HI := hide hi0
    have HZ0 := hide hz0
    have HZ1 := hide hz1
    have HZ2 := hide hz2
    clear hi0 hz0 hz1 hz2
    have HO := hide (World.ownsRow_lit (e := 54) (size := 4) (base := w.heap.size) w #[] 0 (Nat.le_refl _) (by simp [maxLen]) rfl)
    have HC := hide (H.out.cells rfl)
    have hlen := H.out.len
    go_enter Try.func30, Try.ntmps30
    go_wp2_with (at_builtin; refine wpList_append_own _ rfl _ _ 22 rfl w.heap.size 54 i0 (clV 0 0 0 false) 4 32 Try.underlying22 HI.out HZ0.out HZ1.out HZ2.out rfl (by decide) _ _ _ rfl HO.out x len cap (clCells cs) rfl ?q0 ?c1 ?c2 ?c3 ?c4 ?c5 ?_)
    case q0 => rw [clCells_length, hlen]
    case c1 => intro j u hj; exact Grow.cell (Grow.box _ _) (HC.out j u hj)
    case c2 => exact clCells_one cs
    case c3 => unfold maxLen; omega
    case c4 => omega
    intro v' w3 hown3 hgrow _
    have c3 := Chg.grownOwn (Grow.box w (.cells [].toArray 54)) HO.out (Nat.le_refl _) hgrow
    have HO3 := hide hown3
    clear hown3 hgrow HC HO
    go_wp2
    go_ret
    refine ⟨_, rfl, ?_, c3⟩
    have := HO3.out
    rw [hlen]
    simpa using this

/-- What New answers: the error's number. -/
def newX (cs : List Cl) : Int := if cs.all Cl.rt then (if cs.length < 64 then 0 else 3) else 1
/-- A table of these classes, at a pointer: v is the list that it holds. -/
def Tb (w : World) (base : Nat) (p : Option Addr) (v : Value) (cs : List Cl) : Prop :=
  w.ownsRow base 54 4 v cs.length (clCells cs) ∧ ((p = none ∧ v = .slice none 0 0) ∨ ∃ g, p = some ⟨g, 0, none⟩ ∧ base ≤ g ∧ Blk w g 75 [v])
def NewPost (cs : List Cl) (w : World) (e : Ending) (w' : World) : Prop :=
  Grow w w' ∧ ((newX cs = 0 ∧ ∃ g v, e = .returned (.tuple #[.pointer (some ⟨g, 0, none⟩), .int .i64 0]) ∧ Tb w' w.heap.size (some ⟨g, 0, none⟩) v cs) ∨ (newX cs ≠ 0 ∧ e = .returned (.tuple #[.pointer none, .int .i64 (newX cs)])))
theorem newX_no {cs : List Cl} {i : Nat} {c : Cl} (h : cs[i]? = some c) (hr : c.rt = false) : newX cs = 1 := by
  have : cs.all Cl.rt = false := by
    rw [List.all_eq_false]
    exact ⟨c, List.mem_of_getElem? h, by simp [hr]⟩
  simp [newX, this]
theorem all_of {cs : List Cl} (h : ∀ i, i < cs.length → ∀ c, cs[i]? = some c → c.rt = true) : cs.all Cl.rt = true := by
  rw [List.all_eq_true]
  intro c hc
  obtain ⟨i, hi, rfl⟩ := List.getElem_of_mem hc
  exact h i hi _ (List.getElem?_eq_getElem hi)

theorem own_base {w : World} {b b' : Nat} {e : TypeId} {size : Nat} {v : Value} {n : Nat} {xs : List Value} (h : w.ownsRow b e size v n xs) (hb : b' ≤ b) : w.ownsRow b' e size v n xs := by
  obtain ⟨h1, h2⟩ := h
  refine ⟨h1, ?_⟩
  rcases h2 with h2 | ⟨g, cap, cur, rfl, h3, h4⟩
  · exact .inl h2
  · exact .inr ⟨g, cap, cur, rfl, Nat.le_trans hb h3, h4⟩

set_option maxHeartbeats 2000000 in
set_option maxRecDepth 100000 in
theorem new_any (a : Option Addr) (len cap : Nat) (cs : List Cl) (w : World) (h : IsCls w a len cap cs) (hl : len ≤ 100) :
    Calls Try.prog 15 #[.slice a len cap] w (NewPost cs w) := by
  have H := hide h
  have HL := hide h.len
  clear h
  go_enter Try.func15, Try.ntmps15
  go_wp2
  go_loopw [8] (fun i wr => ∃ k : Nat, k ≤ len ∧ i = .int .i64 k ∧ (∀ i, i < k → ∀ c, cs[i]? = some c → c.rt = true) ∧ Grow w wr) (fun i _ => len - (intOf i).toNat)
  case atStart => exact ⟨0, Nat.zero_le _, rfl, fun i hi => absurd hi (by omega), Chg.refl _ _⟩
  case round =>
    obtain ⟨k, hk, rfl, hall, cc⟩ := hrel
    by_cases hlt : k < len
    · obtain ⟨b, off, c, rfl, hc, ⟨e0, e1, e2, e3⟩, hM⟩ := (H.out.chg cc (fun i hi => id)).at_ hlt
      obtain ⟨K, R, D, f⟩ := c
      have HA := hide hall
      clear hall
      dsimp only at e0 e1 e2 e3 hM
      have hx := Blk.new wr 54 [.int .i64 K, .int .i64 R, .int .i64 D, .bool f]
      replace cc := cc.alloc (.cells [.int .i64 K, .int .i64 R, .int .i64 D, .bool f].toArray 54)
      cases hr : rtB K R D f
      · have HX := hide (newX_no hc hr)
        have HR := hide hr
        clear hr hc
        go_wp2_with fail
        clear e0 e1 e2 e3
        refine (right_is _ hM HR.out).mono ?_
        rintro e w1 ⟨rfl, c_w1⟩
        replace hx := hx.chg c_w1 id
        replace cc := cc.step c_w1 (fun _ _ h => h.elim)
        clear c_w1 
        go_wp2
        go_returns
        exact ⟨cc, .inr ⟨by rw [HX.out]; decide, by rw [HX.out]; rfl⟩⟩
      · have HX := hide (show ∀ i, i < k + 1 → ∀ c, cs[i]? = some c → c.rt = true by
          intro i hi c hci
          rcases Nat.lt_or_ge i k with h | h
          · exact HA.out i h c hci
          · obtain rfl : i = k := by omega
            rw [hc] at hci
            injection hci with hci
            subst hci
            exact hr)
        have HR := hide hr
        clear hr hc
        go_wp2_with fail
        clear e0 e1 e2 e3
        refine (right_is _ hM HR.out).mono ?_
        rintro e w1 ⟨rfl, c_w1⟩
        replace hx := hx.chg c_w1 id
        replace cc := cc.step c_w1 (fun _ _ h => h.elim)
        clear c_w1 
        go_wp2
        go_roundw
        case rel => exact ⟨k + 1, by omega, by go_num, HX.out, cc⟩
        case measure => simp [intOf]; omega
    · obtain rfl : k = len := by omega
      have HA := hide (all_of (by rw [HL.out]; exact hall))
      clear hall
      by_cases h64 : k < 64
      · have h64' : decide ((k : Int) ≥ 64) = false := by simp; omega
        have HX := hide (show newX cs = 0 by simp [newX, HA.out, HL.out, h64])
        go_wp2_with fail
        refine (clone_any a k cap cs _ (H.out.chg cc (fun i hi => id)) hl).mono ?_
        rintro e w1 ⟨v, rfl, ho, c1⟩
        obtain ⟨xa, xc, rfl⟩ := own_len ho
        have hb : w.heap.size ≤ wr.heap.size := cc.size
        have hg : w.heap.size ≤ w1.heap.size := Nat.le_trans hb c1.size
        replace cc := (cc.trans c1).alloc (.cells [.slice xa cs.length xc].toArray 75)
        have hp := Blk.new w1 75 [.slice xa cs.length xc]
        have ho' := (own_base ho hb).alloc (.cells [.slice xa cs.length xc].toArray 75)
        have HO := hide ho'
        have HP := hide hp
        clear ho ho' hp c1 hb
        go_wp2
        go_returns
        exact ⟨cc, .inl ⟨HX.out, w1.heap.size, .slice xa cs.length xc, rfl, HO.out, .inr ⟨_, rfl, hg, HP.out⟩⟩⟩
      · have h64' : decide ((k : Int) ≥ 64) = true := by simp; omega
        have HX := hide (show newX cs = 3 by simp [newX, HA.out, HL.out, h64])
        go_wp2
        go_returns
        exact ⟨cc, .inr ⟨by rw [HX.out]; decide, by rw [HX.out]; rfl⟩⟩
end Go.Proofs.Ytjofdamobnemcaa.L5
