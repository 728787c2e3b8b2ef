/- Lists of calls that come in: each with four numbers and a list. Conditions: none. -/
import Derived.Test.YtjfpjnhlnoiekaaGreatOpen
import Derived.Test.YtjfpjnhlnoiekaaGreatL9A
import Derived.StillTailTactics
import Derived.Test.YtjfpjnhlnoiekaaGreatL1A
import Derived.Test.YtjfpjnhlnoiekaaGreatL5A
import Derived.ShutString
namespace Go.Proofs.YtjfpjnhlnoiekaaGreat.L9
open Go.ChangeShapes Go.WideShapes Go.ChangeAt Go.RowKit Go.Deep
set_option linter.unusedVariables false

structure Oq where
  k : Int
  a : Int
  b : Int
  c : Int
  la : Option Addr
  ll : Nat
  lc : Nat
  zs : List Int
def Oq.cells (o : Oq) : List Value := [.int .i64 o.k, .int .i64 o.a, .int .i64 o.b, .int .i64 o.c, .slice o.la o.ll o.lc]
abbrev w64 (x : Int) : Prop := (Lit.int .i64 x).wf = true
structure Oq.Ok (w : World) (o : Oq) : Prop where
  k : w64 o.k
  a : w64 o.a
  b : w64 o.b
  c : w64 o.c
  row : IsRow .i64 w o.la o.ll o.lc o.zs
def o0 : Oq := ⟨0, 0, 0, 0, none, 0, 0, []⟩
/-- A list of calls. -/
def IsOps (w : World) (a : Option Addr) (len cap : Nat) (l : List Oq) : Prop :=
  l.length = len ∧ len ≤ cap ∧ cap ≤ maxLen ∧ (0 < len → ∃ b off, a = some ⟨b, off, none⟩ ∧ ∀ i, i < len → ∀ j c, ((l.getD i o0).cells)[j]? = some c → w.cell? ⟨b, off + i * 5 + j, none⟩ = some c) ∧ ∀ o ∈ l, o.Ok w
section
variable {w w' : World} {a : Option Addr} {len cap : Nat} {l : List Oq} {S : Nat → Prop}
theorem Oq.Ok.chg {o : Oq} (h : o.Ok w) (c : Chg S w w') (hs : ∀ i, i < w.heap.size → ¬ S i) : o.Ok w' := ⟨h.k, h.a, h.b, h.c, h.row.chg c hs⟩
theorem IsOps.chg (h : IsOps w a len cap l) (c : Chg S w w') (hs : ∀ i, i < w.heap.size → ¬ S i) : IsOps w' a len cap l := by
  obtain ⟨h1, h2, h3, h4, h5⟩ := h
  refine ⟨h1, h2, h3, fun hl => ?_, fun o ho => (h5 o ho).chg c hs⟩
  obtain ⟨b, off, rfl, hx⟩ := h4 hl
  exact ⟨b, off, rfl, fun i hi j u hu => c.cell (hx i hi j u hu) (hs _ (cell_lt (hx i hi j u hu)))⟩
theorem IsOps.at_ (h : IsOps w a len cap l) {i : Nat} (hi : i < len) : ∃ b off, ∃ o : Oq, a = some ⟨b, off, none⟩ ∧ l[i]? = some o ∧ l.getD i o0 = o ∧ o.Ok w ∧
    w.cell? ⟨b, off + i * 5 + 0, none⟩ = some (.int .i64 o.k) ∧ w.cell? ⟨b, off + i * 5 + 1, none⟩ = some (.int .i64 o.a) ∧ w.cell? ⟨b, off + i * 5 + 2, none⟩ = some (.int .i64 o.b) ∧ w.cell? ⟨b, off + i * 5 + 3, none⟩ = some (.int .i64 o.c) ∧ w.cell? ⟨b, off + i * 5 + 4, none⟩ = some (.slice o.la o.ll o.lc) := by
  obtain ⟨h1, h2, h3, h4, h5⟩ := h
  obtain ⟨b, off, rfl, hx⟩ := h4 (by omega)
  have hil : i < l.length := by omega
  refine ⟨b, off, l[i], rfl, List.getElem?_eq_getElem hil, ?_, h5 _ (List.getElem_mem hil), ?_⟩
  · rw [List.getD_eq_getElem?_getD, List.getElem?_eq_getElem hil]; rfl
  · have hx' := hx i hi
    rw [show l.getD i o0 = l[i] by rw [List.getD_eq_getElem?_getD, List.getElem?_eq_getElem hil]; rfl] at hx'
    exact ⟨hx' 0 _ rfl, hx' 1 _ rfl, hx' 2 _ rfl, hx' 3 _ rfl, hx' 4 _ rfl⟩
end
section
variable {H : Type} {enc : TypeId × Value → H} {w : World} {base : Nat} {held : Bool}
end
end Go.Proofs.YtjfpjnhlnoiekaaGreat.L9
/- Are calls few enough; is a number among some; are two nodes alike. Conditions: none. -/
namespace Go.Proofs.YtjfpjnhlnoiekaaGreat.L9
open Go.ChangeShapes Go.WideShapes Go.ChangeAt Go.RowKit
set_option linter.unusedVariables false
def fewB (l : List Oq) : Bool := decide (l.length ≤ 100) && l.all fun o => decide (o.ll ≤ 100)
section
variable {w : World} {a : Option Addr} {len cap : Nat} {l : List Oq} {zs : List Int}
theorem fewB_take {k : Nat} (h : k < l.length) : (l.take (k + 1)).all (fun o => decide (o.ll ≤ 100)) = ((l.take k).all (fun o => decide (o.ll ≤ 100)) && decide ((l.getD k o0).ll ≤ 100)) := by
  rw [List.take_add_one, List.getElem?_eq_getElem h, List.all_append, List.getD_eq_getElem?_getD, List.getElem?_eq_getElem h]
  simp
theorem has_take {k : Nat} (h : k < zs.length) (x : Int) : hasB (zs.take (k + 1)) x = (hasB (zs.take k) x || decide (zs.getD k 0 = x)) := by
  rw [hasB_step zs k h, Bool.or_comm]
  simp [eq_comm]
set_option maxRecDepth 100000 in
set_option maxHeartbeats 1000000 in
theorem has_any (h : IsRow .i64 w a len cap zs) (x : Int) (hl : len ≤ 1000000) : Calls Tryz.prog 34 #[.slice a len cap, .int .i64 x] w fun e w' => e = .returned (.bool (hasB zs x)) ∧ ∃ n, w' = w.drewN n := by
  have HA := hide h
  have HLN := hide h.1
  clear h
  go_enter Tryz.func34, Tryz.ntmps34
  go_wp2_with fail
  go_loopw [8] (fun c wr => ∃ k q : Nat, k ≤ len ∧ c = .int .i64 k ∧ hasB (zs.take k) x = false ∧ wr = w.drewN q) (fun c _ => len - (Go.RowKit.intOf c).toNat)
  case atStart => exact ⟨0, 0, Nat.zero_le _, rfl, rfl, rfl⟩
  case round =>
    obtain ⟨k, q, hk, rfl, hall, rfl⟩ := hrel
    rcases Nat.eq_or_lt_of_le hk with rfl | hlt
    · have q2 : decide ((k : Int) < k) = false := by simp
      have HR := hide (show hasB zs x = false by rw [← hall, ← HLN.out, List.take_length])
      clear hall
      go_wp2
      go_ret
      exact ⟨ret_bool HR.out.symm, _, rfl⟩
    · have q2 : decide ((k : Int) < len) = true := by simp; omega
      obtain ⟨ax, rfl, hc, hwf⟩ := HA.out.at_ hlt
      have hst := has_take (zs := zs) (k := k) (by rw [HLN.out]; exact hlt) x
      rw [hall, Bool.false_or] at hst
      have hw : IntKind.i64.wrap ((k : Int) + 1) = ((k + 1 : Nat) : Int) := (IntWalk.i64_in _ (by omega)).trans (by omega)
      have HK := hide hlt
      have xk : (w.drewN q).cell? (ax.add k) = some (.int .i64 (zs.getD k 0)) := hc
      by_cases hl : zs.getD k 0 = x
      · have q3 : (zs.getD k 0 == x) = true := by simpa using hl
        have HR := hide (show hasB zs x = true by
          unfold hasB
          rw [List.any_eq_true]
          refine ⟨zs.getD k 0, ?_, by simpa using hl⟩
          rw [List.getD_eq_getElem?_getD, List.getElem?_eq_getElem (by rw [HLN.out]; exact hlt)]
          exact List.getElem_mem _)
        clear hst hall hwf hl hc
        generalize zs.getD k 0 = u at *
        go_wp2
        go_ret
        exact ⟨ret_bool HR.out.symm, _, rfl⟩
      · have q3 : (zs.getD k 0 == x) = false := by simpa using hl
        have HR := hide (show hasB (zs.take (k + 1)) x = false by rw [hst]; simpa using hl)
        clear hst hall hwf hl hc
        generalize zs.getD k 0 = u at *
        go_wp2
        go_roundw
        case rel => exact ⟨k + 1, _, HK.out, rfl, HR.out, rfl⟩
        case measure => have := HK.out; simp [Go.RowKit.intOf]; omega
end
end Go.Proofs.YtjfpjnhlnoiekaaGreat.L9
/- Graphs: a list of calls played; and that the program is awake. Conditions: at most 1000 calls. -/
namespace Go.Proofs.YtjfpjnhlnoiekaaGreat.L9
open Go.ChangeShapes Go.WideShapes Go.ChangeAt Go.RowKit
open Go.Proofs.YtjfpjnhlnoiekaaGreat.L5 (Cl clV rtB Tb clAt shX shR shD woV hoB IsCls newX isRf)
set_option linter.unusedVariables false

def opL (cs : List Cl) (L : List Nd) (o : Oq) : List Nd := if o.k = 1 then adL cs L o.a o.b o.c else if o.k = 2 then srL L o.a o.b o.c else if o.k = 3 then snL L o.a o.b o.c else if o.k = 4 then dnL L o.a else L
def plL (cs : List Cl) (L : List Nd) (l : List Oq) : List Nd := l.foldl (opL cs) L
theorem opL_len (cs : List Cl) (L : List Nd) (o : Oq) : (opL cs L o).length ≤ L.length + 1 := by
  unfold opL
  split
  · exact adL_len _ _ _ _ _
  · split
    · rw [srL_len]; omega
    · split
      · rw [snL_len]; omega
      · split
        · rw [dnL_len]; omega
        · omega
theorem plL_len (cs : List Cl) (l : List Oq) : ∀ L : List Nd, (plL cs L l).length ≤ L.length + l.length := by
  induction l with
  | nil => intro L; exact Nat.le_refl _
  | cons o l ih =>
    intro L
    have h1 := ih (opL cs L o)
    have h2 := opL_len cs L o
    show (plL cs (opL cs L o) l).length ≤ _
    simp only [List.length_cons]
    omega
theorem plL_step (cs : List Cl) (L : List Nd) (l : List Oq) (k : Nat) (hk : k < l.length) : plL cs L (l.take (k + 1)) = opL cs (plL cs L (l.take k)) (l.getD k o0) := by
  unfold plL
  rw [List.take_add_one, List.getElem?_eq_getElem hk, List.foldl_append, List.getD_eq_getElem?_getD, List.getElem?_eq_getElem hk]
  rfl
section
variable {w0 w : World} {z p : Nat} {S : Nat → Prop} {cs : List Cl} {L : List Nd} {a : Option Addr} {len cap : Nat} {l : List Oq}
/-- What stands between two calls. -/
def Pl (w wr : World) (z : Nat) (S : Nat → Prop) (p : Nat) (cs : List Cl) (L : List Nd) : Prop :=
  ∃ S', GS wr z S' p cs L ∧ Chg S w wr ∧ ∀ k, S' k → S k ∨ w.heap.size ≤ k
theorem Pl.same {wr w' : World} {L' : List Nd} {S1 : Nat → Prop} (hs : ∀ k, S1 k → S k ∨ w.heap.size ≤ k) (hcc : Chg S w wr) (hc : Chg S1 wr w') (hg : GS w' z S1 p cs L') : Pl w w' z S p cs L' :=
  ⟨S1, hg, hcc.step hc fun i hi hk => by rcases hs i hk with h | h; exact h; omega, hs⟩
theorem Pl.more {wr w' : World} {L' : List Nd} {S1 S' : Nat → Prop} (hs : ∀ k, S1 k → S k ∨ w.heap.size ≤ k) (hcc : Chg S w wr) (hc : Chg S1 wr w') (hg : GS w' z S' p cs L') (hs' : ∀ k, S' k → S1 k ∨ wr.heap.size ≤ k) : Pl w w' z S p cs L' :=
  ⟨S', hg, hcc.step hc (fun i hi hk => by rcases hs i hk with h | h; exact h; omega), fun k hk => by
    rcases hs' k hk with h | h
    · exact hs k h
    · exact .inr (Nat.le_trans hcc.size h)⟩
end
end Go.Proofs.YtjfpjnhlnoiekaaGreat.L9
/- Nodes that say the same are told to be alike. Conditions: lists of at most 1000000 numbers. -/
namespace Go.Proofs.YtjfpjnhlnoiekaaGreat.L9
open Go.ChangeShapes Go.WideShapes Go.ChangeAt Go.RowKit
set_option linter.unusedVariables false
theorem own_rd {w : World} {base : Nat} {a : Option Addr} {n c : Nat} {xs : List Int} (h : w.ownsRow base 3 1 (.slice a n c) n (ints xs)) : L1.Rd w a n xs := by
  have hl : xs.length = n := by have := h.1; rw [ints_length] at this; omega
  refine ⟨hl, fun hn => ?_⟩
  obtain ⟨g, cap, e, _, _, _, _, hc⟩ := own_ints h hn
  injection e with e1 e2 e3
  subst e1
  exact ⟨_, rfl, fun i hi => by rw [addr_add, Nat.zero_add]; exact hc i hi⟩
theorem L1.Rd.chg {S : Nat → Prop} {w w' : World} {a : Option Addr} {n : Nat} {xs : List Int} (h : L1.Rd w a n xs) (c : Chg S w w') (hs : ∀ i, i < w.heap.size → ¬ S i) : L1.Rd w' a n xs := by
  refine ⟨h.1, fun hn => ?_⟩
  obtain ⟨x, rfl, hx⟩ := h.2 hn
  exact ⟨x, rfl, fun i hi => c.cell (hx i hi) (hs _ (cell_lt (hx i hi)))⟩
section
variable {w : World} {n m : Nat} {xs ys : List Int}
set_option maxRecDepth 100000 in
set_option maxHeartbeats 1000000 in
theorem same_nd (i c : Int) (fb : Bool) {ar ad br bd : Option Addr} (cr cd cr' cd' : Nat) (h1 : L1.Rd w ar n xs) (h2 : L1.Rd w ad m ys) (h3 : L1.Rd w br n xs) (h4 : L1.Rd w bd m ys) (hn : n ≤ 1000000) (hm : m ≤ 1000000) :
    Calls Tryz.prog 12 #[.agg #[.int .i64 i, .int .i64 c, .slice ar n cr, .slice ad m cd, .bool fb], .agg #[.int .i64 i, .int .i64 c, .slice br n cr', .slice bd m cd', .bool fb]] w fun e w' => e = .returned (.bool true) ∧ Grow w w' := by
  obtain ⟨e4, e7, gB, F4, F7, hne⟩ := boxes2 w 38 [.int .i64 i, .int .i64 c, .slice ar n cr, .slice ad m cd, .bool fb] 38 [.int .i64 i, .int .i64 c, .slice br n cr', .slice bd m cd', .bool fb]
  have H1 := hide (L1.Rd.chg h1 gB fun _ _ => id)
  have H2 := hide (L1.Rd.chg h2 gB fun _ _ => id)
  have H3 := hide (L1.Rd.chg h3 gB fun _ _ => id)
  have H4 := hide (L1.Rd.chg h4 gB fun _ _ => id)
  clear h1 h2 h3 h4 F4 F7
  go_enter Tryz.func12, Tryz.ntmps12
  go_wp2_with fail
  generalize (w.alloc (.cells #[.int .i64 i, .int .i64 c, .slice ar n cr, .slice ad m cd, .bool fb] 38)).alloc (.cells #[.int .i64 i, .int .i64 c, .slice br n cr', .slice bd m cd', .bool fb] 38) = w2 at *
  have x0 : w2.cell? ⟨w.heap.size, 0, none⟩ = some (.int .i64 i) := e4.cell 0
  have x1 : w2.cell? ⟨w.heap.size, 1, none⟩ = some (.int .i64 c) := e4.cell 1
  have x2 : w2.cell? ⟨w.heap.size, 2, none⟩ = some (.slice ar n cr) := e4.cell 2
  have x3 : w2.cell? ⟨w.heap.size, 3, none⟩ = some (.slice ad m cd) := e4.cell 3
  have x4 : w2.cell? ⟨w.heap.size, 4, none⟩ = some (.bool fb) := e4.cell 4
  have y0 : w2.cell? ⟨w.heap.size + 1, 0, none⟩ = some (.int .i64 i) := e7.cell 0
  have y1 : w2.cell? ⟨w.heap.size + 1, 1, none⟩ = some (.int .i64 c) := e7.cell 1
  have y2 : w2.cell? ⟨w.heap.size + 1, 2, none⟩ = some (.slice br n cr') := e7.cell 2
  have y3 : w2.cell? ⟨w.heap.size + 1, 3, none⟩ = some (.slice bd m cd') := e7.cell 3
  have y4 : w2.cell? ⟨w.heap.size + 1, 4, none⟩ = some (.bool fb) := e7.cell 4
  clear e4 e7
  go_wp2_with fail
  go_loopw [47] (fun v wr => ∃ k q : Nat, k ≤ n ∧ v = .int .i64 k ∧ wr = w2.drewN q) (fun v _ => n - (Go.RowKit.intOf v).toNat)
  case atStart => exact ⟨0, 0, Nat.zero_le _, rfl, rfl⟩
  case round =>
    obtain ⟨k, q, hk, rfl, rfl⟩ := hrel
    rcases Nat.eq_or_lt_of_le hk with rfl | hlt
    · have q2 : decide ((k : Int) < k) = false := by simp
      go_wp2_with fail
      go_loopw [65] (fun v wr => ∃ j q : Nat, j ≤ m ∧ v = .int .i64 j ∧ wr = w2.drewN q) (fun v _ => m - (Go.RowKit.intOf v).toNat)
      case atStart => exact ⟨0, q, Nat.zero_le _, rfl, rfl⟩
      case round =>
        obtain ⟨j, q', hj, rfl, rfl⟩ := hrel
        rcases Nat.eq_or_lt_of_le hj with rfl | hlt
        · have q3 : decide ((j : Int) < j) = false := by simp
          go_wp2
          go_ret
          exact ⟨rfl, gB.drewN _⟩
        · have q3 : decide ((j : Int) < m) = true := by simp; omega
          obtain ⟨x, rfl, hx⟩ := H2.out.at_ hlt
          obtain ⟨y, rfl, hy⟩ := H4.out.at_ hlt
          have hw : IntKind.i64.wrap ((j : Int) + 1) = ((j + 1 : Nat) : Int) := (IntWalk.i64_in _ (by omega)).trans (by omega)
          generalize ys.getD j 0 = u at *
          go_wp2_with fail
          go_quiet (fail)
          go_wp2
          go_roundw
          case rel => exact ⟨j + 1, _, by omega, rfl, rfl⟩
          case measure => simp [Go.RowKit.intOf]; omega
    · have q2 : decide ((k : Int) < n) = true := by simp; omega
      obtain ⟨x, rfl, hx⟩ := H1.out.at_ hlt
      obtain ⟨y, rfl, hy⟩ := H3.out.at_ hlt
      have hw : IntKind.i64.wrap ((k : Int) + 1) = ((k + 1 : Nat) : Int) := (IntWalk.i64_in _ (by omega)).trans (by omega)
      generalize xs.getD k 0 = u at *
      go_wp2_with fail
      go_quiet (fail)
      go_wp2
      go_roundw
      case rel => exact ⟨k + 1, _, by omega, rfl, rfl⟩
      case measure => simp [Go.RowKit.intOf]; omega
end
end Go.Proofs.YtjfpjnhlnoiekaaGreat.L9
/- A node that is told, in a box of the caller's: reading it, writing into its lists. Conditions: none. -/
namespace Go.Proofs.YtjfpjnhlnoiekaaGreat.L9
open Go.ChangeShapes Go.WideShapes Go.ChangeAt Go.RowKit
open Go.Proofs.YtjfpjnhlnoiekaaGreat.L5 (Cl)
set_option linter.unusedVariables false

abbrev tnC (i c : Int) (f : Bool) (n m : Nat) (a : Option Addr) (ca : Nat) (b : Option Addr) (cb : Nat) : List Value := [.int .i64 i, .int .i64 c, .slice a n ca, .slice b m cb, .bool f]
/-- In box t: a node with lists rs, ds of its own; all of it lies in [lo, hi). -/
structure Tn (W : World) (t : Nat) (i c : Int) (f : Bool) (n m : Nat) (a : Option Addr) (ca : Nat) (b : Option Addr) (cb : Nat) (rs ds : List Int) (lo hi : Nat) : Prop where
  blk : Blk W t 38 (tnC i c f n m a ca b cb)
  r : W.ownsRow lo 3 1 (.slice a n ca) n (ints rs)
  d : W.ownsRow lo 3 1 (.slice b m cb) m (ints ds)
  ap : ∀ k, (Value.slice a n ca).ownBlock = some k → (Value.slice b m cb).ownBlock ≠ some k
  tl : lo ≤ t ∧ t < hi
  rl : ∀ k, (Value.slice a n ca).ownBlock = some k → k < t
  dl : ∀ k, (Value.slice b m cb).ownBlock = some k → k < t
section
variable {W W' : World} {t : Nat} {i c : Int} {f : Bool} {n m : Nat} {a : Option Addr} {ca : Nat} {b : Option Addr} {cb : Nat} {rs ds : List Int} {lo hi k : Nat} {S : Nat → Prop}
theorem Tn.chg (h : Tn W t i c f n m a ca b cb rs ds lo hi) (g : Chg S W W') (hs : ∀ k, lo ≤ k → k < hi → ¬ S k) : Tn W' t i c f n m a ca b cb rs ds lo hi :=
  ⟨h.blk.chg g (hs t h.tl.1 h.tl.2), own_chg h.r g (fun k hk => hs k (h.r.lt k hk).1 (Nat.lt_trans (h.rl k hk) h.tl.2)), own_chg h.d g (fun k hk => hs k (h.d.lt k hk).1 (Nat.lt_trans (h.dl k hk) h.tl.2)), h.ap, h.tl, h.rl, h.dl⟩
theorem Tn.grow (h : Tn W t i c f n m a ca b cb rs ds lo hi) (g : Grow W W') : Tn W' t i c f n m a ca b cb rs ds lo hi := h.chg g fun _ _ _ => id
theorem Tn.rdR (h : Tn W t i c f n m a ca b cb rs ds lo hi) : L1.Rd W a n rs := own_rd h.r
theorem Tn.rdD (h : Tn W t i c f n m a ca b cb rs ds lo hi) : L1.Rd W b m ds := own_rd h.d
theorem own_at {base : Nat} {xs : List Int} (h : W.ownsRow base 3 1 (.slice a n ca) n (ints xs)) (hk : k < n) : ∃ g, a = some ⟨g, 0, none⟩ ∧ base ≤ g ∧ g < W.heap.size ∧ (Value.slice a n ca).ownBlock = some g ∧ W.cell? ⟨g, k, none⟩ = some (.int .i64 (xs.getD k 0)) := by
  have hl : xs.length = n := by have := h.1; rw [ints_length] at this; omega
  obtain ⟨g, cap, e, h1, h2, _, _, hc⟩ := own_ints h (by omega)
  injection e with e1 e2 e3
  subst e1
  exact ⟨g, rfl, h1, h2, rfl, hc k hk⟩
theorem Tn.setR (h : Tn W t i c f n m a ca b cb rs ds lo hi) (hk : k < n) (v : Int) : ∃ g, a = some ⟨g, 0, none⟩ ∧ lo ≤ g ∧ g < hi ∧ W.cell? ⟨g, k, none⟩ = some (.int .i64 (rs.getD k 0)) ∧ W.frozen? ⟨g, k, none⟩ = false ∧
    Tn (W.setCell ⟨g, k, none⟩ (.int .i64 v)) t i c f n m a ca b cb (rs.set k v) ds lo hi := by
  obtain ⟨g, rfl, h1, h2, h3, h4⟩ := own_at h.r hk
  have hgt := h.rl g h3
  refine ⟨g, rfl, h1, Nat.lt_trans hgt h.tl.2, h4, h.r.frozenAt k, h.blk.far (by show t ≠ g; omega) _, ?_, own_chg h.d ((Chg.refl _ _).set1 (g := g) k _) (fun j hj e => by subst e; exact h.ap _ h3 hj), h.ap, h.tl, h.rl, h.dl⟩
  rw [← ints_set]
  exact (h.r.stored k (.int .i64 v)).1
theorem Tn.setD (h : Tn W t i c f n m a ca b cb rs ds lo hi) (hk : k < m) (v : Int) : ∃ g, b = some ⟨g, 0, none⟩ ∧ lo ≤ g ∧ g < hi ∧ W.cell? ⟨g, k, none⟩ = some (.int .i64 (ds.getD k 0)) ∧ W.frozen? ⟨g, k, none⟩ = false ∧
    Tn (W.setCell ⟨g, k, none⟩ (.int .i64 v)) t i c f n m a ca b cb rs (ds.set k v) lo hi := by
  obtain ⟨g, rfl, h1, h2, h3, h4⟩ := own_at h.d hk
  have hgt := h.dl g h3
  refine ⟨g, rfl, h1, Nat.lt_trans hgt h.tl.2, h4, h.d.frozenAt k, h.blk.far (by show t ≠ g; omega) _, own_chg h.r ((Chg.refl _ _).set1 (g := g) k _) (fun j hj e => by subst e; exact h.ap _ hj h3), ?_, h.ap, h.tl, h.rl, h.dl⟩
  rw [← ints_set]
  exact (h.d.stored k (.int .i64 v)).1
theorem Tn.cells (h : Tn W t i c f n m a ca b cb rs ds lo hi) : W.cell? ⟨t, 0, none⟩ = some (.int .i64 i) ∧ W.cell? ⟨t, 1, none⟩ = some (.int .i64 c) ∧ W.cell? ⟨t, 2, none⟩ = some (.slice a n ca) ∧ W.cell? ⟨t, 3, none⟩ = some (.slice b m cb) ∧ W.cell? ⟨t, 4, none⟩ = some (.bool f) :=
  ⟨h.blk.cell 0, h.blk.cell 1, h.blk.cell 2, h.blk.cell 3, h.blk.cell 4⟩
variable {w : World} {z p : Nat} {cs : List Cl} {L : List Nd} {x : Nd} {j : Int}
/-- Node, and the box behind it. -/
theorem node_tn (h : GS w z S p cs L) (hi : In64 j) (hn : nd L j = some ⟨i, c, rs, ds, f⟩) (h1 : rs.length = n) (h2 : ds.length = m) :
    Calls Tryz.prog 11 #[ptr p, .int .i64 j] w fun e w' => ∃ a ca b cb, e = .returned (.tuple #[.agg #[.int .i64 i, .int .i64 c, .slice a n ca, .slice b m cb, .bool f], .int .i64 0]) ∧ Grow w w' ∧
      Tn (w'.alloc (.cells #[.int .i64 i, .int .i64 c, .slice a n ca, .slice b m cb, .bool f] 38)) w'.heap.size i c f n m a ca b cb rs ds w.heap.size (w'.heap.size + 1) := by
  subst h1 h2
  refine (node_yes h hi hn).mono ?_
  rintro e w' ⟨a, ca, b, cb, rfl, ⟨t1, t2, t3⟩, c'⟩
  have hg := Grow.box w' (.cells (tnC i c f rs.length ds.length a ca b cb).toArray 38)
  refine ⟨a, ca, b, cb, rfl, c', Blk.new w' _ (tnC i c f _ _ a ca b cb), own_grow t1 hg, own_grow t2 hg, t3, ⟨c'.size, by omega⟩, fun k hk => (t1.lt k hk).2, fun k hk => (t2.lt k hk).2⟩
/-- Two nodes that say the same. -/
theorem same_tn {t' : Nat} {a' : Option Addr} {ca' : Nat} {b' : Option Addr} {cb' lo' hi' : Nat} (h : Tn W t i c f n m a ca b cb rs ds lo hi) (h' : Tn W t' i c f n m a' ca' b' cb' rs ds lo' hi') (hn : n ≤ 1000000) (hm : m ≤ 1000000) :
    Calls Tryz.prog 12 #[.agg #[.int .i64 i, .int .i64 c, .slice a n ca, .slice b m cb, .bool f], .agg #[.int .i64 i, .int .i64 c, .slice a' n ca', .slice b' m cb', .bool f]] W fun e w' => e = .returned (.bool true) ∧ Grow W w' :=
  same_nd i c f ca cb ca' cb' h.rdR h.rdD h'.rdR h'.rdD hn hm
end
end Go.Proofs.YtjfpjnhlnoiekaaGreat.L9
/- That the program is awake. Conditions: none. -/
namespace Go.Proofs.YtjfpjnhlnoiekaaGreat.L9
open Go.ChangeShapes Go.WideShapes Go.ChangeAt Go.RowKit
open Go.Proofs.YtjfpjnhlnoiekaaGreat.L5 (Cl clV rtB Tb clAt shX shR shD woV hoB IsCls newX isRf)
set_option linter.unusedVariables false
def aC : List Cl := [⟨4, 1, 2, false⟩]
def aN (i r : Int) : Nd := ⟨i, 1, [r], [0, 0], false⟩
end Go.Proofs.YtjfpjnhlnoiekaaGreat.L9
/- How the laws begin: a table, a graph of it, another one beside it. Conditions: none. -/
namespace Go.Proofs.YtjfpjnhlnoiekaaGreat.L9
open Go.ChangeShapes Go.WideShapes Go.ChangeAt Go.RowKit
open Go.Proofs.YtjfpjnhlnoiekaaGreat.L5 (Cl clV rtB Tb clAt shX shR shD woV hoB IsCls newX isRf)
set_option linter.unusedVariables false

/-- A table that lies ahead of z. -/
def Tz (w : World) (z tb : Nat) (cs : List Cl) : Prop := ∃ base v, Tb w base (some ⟨tb, 0, none⟩) v cs ∧ (tb < z ∧ ∀ k, v.ownBlock = some k → k < z) ∧ cs.length ≤ 100 ∧ cs.all L5.Cl.rt = true
section
variable {w w' w0 : World} {z tb p q : Nat} {S T Sg Sh : Nat → Prop} {cs : List Cl} {L Lg Lh : List Nd} {a : Option Addr} {len cap : Nat} {l : List Oq}
theorem newX_rt (h : newX cs = 0) : cs.all L5.Cl.rt = true ∧ cs.length ≤ 100 := by
  unfold newX at h
  split at h
  · rename_i h1
    split at h
    · exact ⟨h1, by omega⟩
    · cases h
  · cases h
theorem new_tz (h : IsCls w a len cap cs) (hl : len ≤ 100) (hX : newX cs = 0) :
    Calls Tryz.prog 18 #[.slice a len cap] w fun e w' => ∃ g, e = .returned (.tuple #[ptr g, .int .i64 0]) ∧ Tz w' w'.heap.size g cs ∧ Grow w w' :=
  (L5.new_yes w h hl hX).mono fun e w' ⟨g, v, he, ht, hg⟩ => by
    refine ⟨g, he, ⟨_, v, ht, ⟨?_, fun k hk => (ht.1.lt k hk).2⟩, (newX_rt hX).2, (newX_rt hX).1⟩, hg⟩
    rcases ht.2 with ⟨h, _⟩ | ⟨g', e, _, hb⟩
    · cases h
    · injection e with e; injection e with e; subst e; exact hb.lt
theorem Tz.grow (h : Tz w z tb cs) (c : Grow w w') : Tz w' z tb cs := by
  obtain ⟨base, v, h1, h2, h3, h4⟩ := h
  exact ⟨base, v, h1.grow c, h2, h3, h4⟩
theorem Tz.chg (h : Tz w z tb cs) (c : Chg T w w') (hT : ∀ k, T k → z ≤ k) : Tz w' z tb cs := by
  obtain ⟨base, v, h1, h2, h3, h4⟩ := h
  exact ⟨base, v, Tb.chgT h1 h2.1 h2.2 c hT, h2, h3, h4⟩
theorem new_gr (h : Tz w z tb cs) (hz : z ≤ w.heap.size) :
    Calls Tryz.prog 19 #[ptr tb] w fun e w' => ∃ p S, e = .returned (ptr p) ∧ Grow w w' ∧ GS w' z S p cs [] ∧ ∀ k, S k → w.heap.size ≤ k := by
  obtain ⟨base, v, h1, h2, h3, h4⟩ := h
  exact new_gs h1 h2 hz h3 h4
/-- Two graphs, apart. -/
structure Two (w : World) (z : Nat) (Sg Sh : Nat → Prop) (p q : Nat) (cs : List Cl) (Lg Lh : List Nd) : Prop where
  g : GS w z Sg p cs Lg
  h : GS w z Sh q cs Lh
  ap : ∀ k, Sg k → ¬ Sh k
theorem Two.grow (h : Two w z Sg Sh p q cs Lg Lh) (c : Grow w w') : Two w' z Sg Sh p q cs Lg Lh := ⟨h.g.grow c, h.h.grow c, h.ap⟩
theorem Two.fst (h : Two w z Sg Sh p q cs Lg Lh) (c : Chg Sg w w') {Lg' : List Nd} (hg : GS w' z Sg p cs Lg') : Two w' z Sg Sh p q cs Lg' Lh :=
  ⟨hg, h.h.chg c (fun k hk => (h.g.s hk).1) (fun k hk hs => h.ap k hs hk), h.ap⟩
theorem Two.fst' (h : Two w z Sg Sh p q cs Lg Lh) (hp : Pl w w' z Sg p cs L) : ∃ Sg', Two w' z Sg' Sh p q cs L Lh ∧ (Chg Sg w w') := by
  obtain ⟨S', h1, h2, h3⟩ := hp
  refine ⟨S', ⟨h1, h.h.chg h2 (fun k hk => (h.g.s hk).1) (fun k hk hs => h.ap k hs hk), fun k hk hs => ?_⟩, h2⟩
  rcases h3 k hk with h4 | h4
  · exact h.ap k h4 hs
  · have := (h.h.s hs).2; omega
theorem Two.snd' (h : Two w z Sg Sh p q cs Lg Lh) (hp : Pl w w' z Sh q cs L) : ∃ Sh', Two w' z Sg Sh' p q cs Lg L ∧ (Chg Sh w w') := by
  obtain ⟨S', h1, h2, h3⟩ := hp
  refine ⟨S', ⟨h.g.chg h2 (fun k hk => (h.h.s hk).1) (fun k hk hs => h.ap k hk hs), h1, fun k hk hs => ?_⟩, h2⟩
  rcases h3 k hs with h4 | h4
  · exact h.ap k hk h4
  · have := (h.g.s hk).2; omega
theorem GS.chgz (h : GS w z S p cs L) (c : Chg S w w') : Chg (fun k => z ≤ k) w w' := c.mono fun k _ hk => (h.s hk).1
theorem fewB_ll (h : fewB l = true) : l.length ≤ 100 ∧ ∀ o ∈ l, o.ll ≤ 100 := by
  unfold fewB at h
  rw [Bool.and_eq_true] at h
  refine ⟨by simpa using h.1, fun o ho => ?_⟩
  have := List.all_eq_true.1 h.2 o ho
  simpa using this
theorem pl_bd (h : fewB l = true) : (plL cs [] l).length ≤ 100 := by
  have h1 := plL_len cs l []
  have h2 := (fewB_ll h).1
  simp at h1
  omega
end
end Go.Proofs.YtjfpjnhlnoiekaaGreat.L9
/- GraphKeeps: references lead to nodes that are there; what stays of a node. Conditions: none. -/
namespace Go.Proofs.YtjfpjnhlnoiekaaGreat.graphKeeps
open Go.ChangeShapes Go.WideShapes Go.ChangeAt Go.RowKit Go.Proofs.YtjfpjnhlnoiekaaGreat.L9
open Go.Proofs.YtjfpjnhlnoiekaaGreat.L5 (Cl clAt IsCls newX)
set_option linter.unusedVariables false

/-- Every reference leads to a node that is there, or nowhere. -/
def Clo (L : List Nd) : Prop := ∀ x ∈ L, ∀ t ∈ x.refs, t = 0 ∨ ∃ y ∈ L, y.id = t
theorem nd_ne {L : List Nd} {t : Int} : nd L t ≠ none ↔ ∃ y ∈ L, y.id = t := by
  constructor
  · intro h
    obtain ⟨y, hy⟩ := Option.ne_none_iff_exists'.1 h
    exact ⟨y, nd_some hy⟩
  · rintro ⟨y, hy, e⟩ h
    exact nd_none h y hy e
theorem Clo.ins {L : List Nd} (h : Clo L) {x : Nd} (hx : ∀ t ∈ x.refs, t = 0) : Clo (ins L x) := by
  intro y hy t ht
  rcases mem_ins.1 hy with rfl | hy
  · exact .inl (hx t ht)
  · rcases h y hy t ht with h | ⟨q, hq, e⟩
    · exact .inl h
    · exact .inr ⟨q, mem_ins.2 (.inr hq), e⟩
theorem Clo.upd {L : List Nd} (h : Clo L) (i : Int) (g : Nd → Nd) (hg : ∀ x, (g x).id = x.id) (hr : ∀ y ∈ L, y.id = i → ∀ t ∈ (g y).refs, t ∈ y.refs ∨ t = 0 ∨ ∃ q ∈ L, q.id = t) : Clo (updN L i g) := by
  have hm : ∀ t, (∃ q ∈ L, q.id = t) → ∃ q ∈ updN L i g, q.id = t := by
    rintro t ⟨q, hq, e⟩
    refine ⟨if q.id = i then g q else q, List.mem_map.2 ⟨q, hq, rfl⟩, ?_⟩
    split
    · rw [hg]; exact e
    · exact e
  intro y hy t ht
  obtain ⟨y0, hy0, rfl⟩ := List.mem_map.1 hy
  by_cases e : y0.id = i
  · rw [if_pos e] at ht
    rcases hr y0 hy0 e t ht with h1 | h1 | h1
    · rcases h y0 hy0 t h1 with h2 | h2
      · exact .inl h2
      · exact .inr (hm t h2)
    · exact .inl h1
    · exact .inr (hm t h1)
  · rw [if_neg e] at ht
    rcases h y0 hy0 t ht with h2 | h2
    · exact .inl h2
    · exact .inr (hm t h2)
theorem Clo.op {L : List Nd} (h : Clo L) (cs : List Cl) (o : Oq) : Clo (opL cs L o) := by
  unfold opL
  split
  · unfold adL
    split
    · refine h.ins fun t ht => ?_
      have : t ∈ zeros (L5.shR (clAt cs o.b) o.c).toNat := ht
      exact List.eq_of_mem_replicate this
    · exact h
  · split
    · unfold srL
      split
      · rename_i h0
        refine h.upd _ _ (fun _ => rfl) fun y hy e t ht => ?_
        rcases List.mem_or_eq_of_mem_set ht with h1 | h1
        · exact .inl h1
        · right
          unfold srX at h0
          have hyn : nd L o.a ≠ none := nd_ne.2 ⟨y, hy, e⟩
          cases hn : nd L o.a with
          | none => exact absurd hn hyn
          | some q =>
            rw [hn] at h0
            simp only at h0
            by_cases h2 : o.b < 0 ∨ (q.refs.length : Int) ≤ o.b
            · rw [if_pos h2] at h0; cases h0
            · rw [if_neg h2] at h0
              by_cases h3 : o.c ≠ 0 ∧ nd L o.c = none
              · rw [if_pos h3] at h0; cases h0
              · rw [h1]
                by_cases h4 : o.c = 0
                · exact .inl h4
                · exact .inr (nd_ne.1 fun h5 => h3 ⟨h4, h5⟩)
      · exact h
    · split
      · unfold snL
        split
        · exact h.upd _ _ (fun _ => rfl) fun y hy e t ht => .inl ht
        · exact h
      · split
        · unfold dnL
          split
          · exact h.upd _ _ (fun _ => rfl) fun y hy e t ht => .inl ht
          · exact h
        · exact h
theorem clo_pl (cs : List Cl) (l : List Oq) : ∀ L : List Nd, Clo L → Clo (plL cs L l) := by
  induction l with
  | nil => exact fun L h => h
  | cons o l ih => exact fun L h => ih _ (h.op cs o)
/-- Cleared, but for what is among some. -/
def fz (zs : List Int) (t : Int) : Option Nat := if hasB zs t then some 0 else none
theorem c1_yes {zs : List Int} {t : Int} (h : hasB zs t = true) : c1 (fz zs) t = t := by unfold c1 fz; rw [if_pos h]; rfl
theorem c1_no {zs : List Int} {t : Int} (h : hasB zs t = false) : c1 (fz zs) t = 0 := by unfold c1 fz; rw [if_neg (by rw [h]; decide)]
theorem clK_skip {f : Int → Option Nat} (l : List Int) (k : Nat) (hk : k < l.length) (hq : c1 f (l.getD k 0) = l.getD k 0) : clK f l (k + 1) = clK f l k := by
  rw [clK_step l k hk, hq]
  have hl := clK_len (f := f) l k
  have hg := clK_get (f := f) l k
  rw [← hg, List.getD_eq_getElem?_getD, List.getElem?_eq_getElem (by omega)]
  exact List.set_getElem_self _
/-- Who stays, as it was. -/
theorem kp_at {L : List Nd} {zs : List Int} (hs : Srt L) (hc : Clo L) {x' : Nd} (hx : x' ∈ kpL L zs) : ∃ x, nd L x.id = some x ∧ hasB zs x.id = true ∧ x' = { x with refs := x.refs.map (c1 (fz zs)) } := by
  unfold kpL at hx
  obtain ⟨x, hxf, rfl⟩ := List.mem_map.1 hx
  obtain ⟨hx, hk⟩ := List.mem_filter.1 hxf
  refine ⟨x, nd_mem hs hx, hk, ?_⟩
  congr 1
  refine List.map_congr_left fun t ht => ?_
  cases hb : hasB zs t with
  | false => rw [c1_no hb]; simp
  | true =>
    rw [c1_yes hb]
    rcases hc x hx t ht with h | h
    · subst h; simp
    · have := nd_ne.2 h
      rw [Bool.true_and, if_pos (Option.isSome_iff_ne_none.2 this)]
theorem kp_len (L : List Nd) (zs : List Int) : (kpL L zs).length + kpN L zs = L.length := by
  unfold kpL kpN
  rw [List.length_map]
  induction L with
  | nil => rfl
  | cons a l ih =>
    simp only [List.filter_cons]
    cases hasB zs a.id <;> simp <;> omega
theorem kpN_all {L : List Nd} {zs : List Int} (h : ∀ x ∈ L, hasB zs x.id = true) : kpN L zs = 0 := by
  unfold kpN
  rw [List.length_eq_zero_iff, List.filter_eq_nil_iff]
  intro x hx
  simp [h x hx]
theorem has_ids {L : List Nd} {x : Nd} (hx : x ∈ L) : hasB (L.map Nd.id) x.id = true := by
  unfold hasB
  rw [List.any_eq_true]
  exact ⟨x.id, List.mem_map.2 ⟨x, hx, rfl⟩, by simp⟩
theorem kp_nil (L : List Nd) : kpL L [] = [] ∧ kpN L [] = L.length := by
  have h : kpL L [] = [] := by simp [kpL, hasB]
  have := kp_len L []
  rw [h] at this
  exact ⟨h, by simpa using this⟩
theorem own_row {W : World} {base : Nat} {a : Option Addr} {n c : Nat} {xs : List Int} (h : W.ownsRow base 3 1 (.slice a n c) n (ints xs)) (hx : ∀ x ∈ xs, In64 x) : IsRow .i64 W a n c xs := by
  have hl : xs.length = n := by have := h.1; rw [ints_length] at this; omega
  have hc : n ≤ c ∧ c ≤ maxLen := by
    rcases h.2 with ⟨e, h0⟩ | ⟨g, cap, cur, e, _, _, h1, h2, _⟩
    · injection e with e1 e2 e3
      subst e2 e3
      exact ⟨Nat.le_refl _, by simp [maxLen]⟩
    · injection e with e1 e2 e3
      subst e3
      exact ⟨h1, h2⟩
  refine ⟨hl, hc.1, hc.2, fun hn => ?_, hx⟩
  obtain ⟨x, e, hr⟩ := (own_rd h).2 hn
  exact ⟨x, e, hr⟩
end Go.Proofs.YtjfpjnhlnoiekaaGreat.graphKeeps
