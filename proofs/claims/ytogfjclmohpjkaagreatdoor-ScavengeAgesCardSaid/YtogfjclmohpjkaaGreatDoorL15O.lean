/- An object's words at an address: what is told of them, and what stores make of them. Conditions: none; nothing here speaks of the program. -/
import Derived.Test.YtogfjclmohpjkaaGreatDoorL15P
import Derived.Test.YtogfjclmohpjkaaGreatDoorL6A
import Derived.Test.YtogfjclmohpjkaaGreatDoorL6B
namespace Go.Proofs.YtogfjclmohpjkaaGreatDoor.L15
open Go.Proofs.YtogfjclmohpjkaaGreatDoor.L4 (hdV riB wd wdV wdX ofB ofC ofA ofF ofM ofN ofD ofV ofX)
open Go.Proofs.YtogfjclmohpjkaaGreatDoor.L5 (Cl rtB clAt shX shR shD woV)
open Go.Proofs.YtogfjclmohpjkaaGreatDoor.L6 (Th th0 fdT fdX obT obX slX slP slV gw oxB meB woT Wk)
set_option linter.unusedVariables false

def Ob.enc (o : Ob) : List Int := wd o.C o.A o.F o.m o.f o.d :: o.l :: (o.rs ++ o.ds)
theorem enc_length (o : Ob) : o.enc.length = o.sz := by simp [Ob.enc, Ob.sz]; omega
structure Ob.Ok (cs : List Cl) (o : Ob) : Prop where
  ri : riB o.C o.A o.F o.f o.d = true
  c : ∃ c, clAt cs o.C = some c
  x : shX (clAt cs o.C) o.l = 0
  r : shR (clAt cs o.C) o.l = o.rs.length
  d : shD (clAt cs o.C) o.l = o.ds.length
/-- These words stand from an address on. -/
def Has (xs : List Int) (a : Int) (ys : List Int) : Prop := ∀ j, j < ys.length → xs[a.toNat + j]? = ys[j]?
structure ObAt (xs : List Int) (cs : List Cl) (a : Int) (o : Ob) : Prop where
  a1 : 1 ≤ a
  ok : o.Ok cs
  w : Has xs a o.enc
def Ob.th (o : Ob) : Th := ⟨o.C, o.A, o.F, o.m, o.f, o.d, o.sz, o.rs.length, o.ds.length⟩

section
variable {xs ys : List Int} {cs : List Cl} {a : Int} {o : Ob}
theorem Ob.Ok.bd (h : o.Ok cs) (hrt : cs.all Cl.rt = true) : 2 ≤ o.sz ∧ o.sz ≤ 32 ∧ 1 ≤ o.C ∧ o.C ≤ 63 ∧ 0 ≤ o.A ∧ o.A ≤ 7 := by
  have := L5.sh_bd (o := clAt cs o.C) (fun c hc => L5.clAt_rt hrt hc) o.l
  rw [h.r, h.d] at this
  obtain ⟨c, hc⟩ := h.c
  obtain ⟨k, e, hk, _⟩ := L5.clAt_some hc
  have hr := L4.ri_true h.ri
  unfold Ob.sz
  refine ⟨by omega, by omega, by omega, by omega, by omega, by omega⟩
theorem ObAt.len (h : ObAt xs cs a o) : a.toNat + o.sz ≤ xs.length := by
  have h2 : 2 ≤ o.sz := by unfold Ob.sz; omega
  have := h.w (o.sz - 1) (by rw [enc_length]; omega)
  rw [List.getElem?_eq_getElem (l := o.enc) (by rw [enc_length]; omega)] at this
  have := (List.getElem?_eq_some_iff.1 this).1
  omega
theorem ObAt.at_ (h : ObAt xs cs a o) {j : Nat} {v : Int} (hv : o.enc[j]? = some v) : xs[a.toNat + j]? = some v := by
  rw [h.w j (List.getElem?_eq_some_iff.1 hv).1, hv]
theorem ObAt.g0 (h : ObAt xs cs a o) : gw xs a = wd o.C o.A o.F o.m o.f o.d := by
  have := h.at_ (j := 0) (v := wd o.C o.A o.F o.m o.f o.d) rfl
  rw [gw, List.getD_eq_getElem?_getD, show xs[a.toNat]? = _ from this]
  rfl
theorem ObAt.g1 (h : ObAt xs cs a o) : gw xs (a + 1) = o.l := by
  have := h.at_ (j := 1) (v := o.l) rfl
  have h1 := h.a1
  rw [gw, List.getD_eq_getElem?_getD, show (a + 1).toNat = a.toNat + 1 by omega, this]
  rfl
theorem ObAt.rs_ (h : ObAt xs cs a o) {k : Nat} (hk : k < o.rs.length) : gw xs (a + 2 + k) = o.rs.getD k 0 := by
  have h1 := h.a1
  have := h.at_ (j := 2 + k) (v := o.rs.getD k 0) (by
    rw [Ob.enc, show 2 + k = k + 1 + 1 by omega, List.getElem?_cons_succ, List.getElem?_cons_succ, List.getElem?_append_left hk]
    simp [List.getD_eq_getElem?_getD, hk])
  rw [gw, List.getD_eq_getElem?_getD, show (a + 2 + k).toNat = a.toNat + (2 + k) by omega, this]
  rfl
theorem ObAt.ds_ (h : ObAt xs cs a o) {k : Nat} (hk : k < o.ds.length) : gw xs (a + 2 + o.rs.length + k) = o.ds.getD k 0 := by
  have h1 := h.a1
  have := h.at_ (j := 2 + o.rs.length + k) (v := o.ds.getD k 0) (by
    rw [Ob.enc, show 2 + o.rs.length + k = o.rs.length + k + 1 + 1 by omega, List.getElem?_cons_succ, List.getElem?_cons_succ, List.getElem?_append_right (by omega), show o.rs.length + k - o.rs.length = k by omega]
    simp [List.getD_eq_getElem?_getD, hk])
  rw [gw, List.getD_eq_getElem?_getD, show (a + 2 + o.rs.length + k).toNat = a.toNat + (2 + o.rs.length + k) by omega, this]
  rfl
theorem of_wd {C A F : Int} {m f d : Bool} (hr : riB C A F f d = true) : ofC (wd C A F m f d) = C ∧ ofA (wd C A F m f d) = A ∧ ofF (wd C A F m f d) = F ∧ ofM (wd C A F m f d) = m ∧ ofN (wd C A F m f d) = f ∧ ofD (wd C A F m f d) = d := by
  have h := (L4.ofV_wd (m := m) hr).1
  simp only [ofV, hdV] at h
  injection h with h
  simp at h
  obtain ⟨h1, h2, h3, h4, h5, h6⟩ := h
  exact ⟨h1, h2, h3, h4, h5, h6⟩
theorem ObAt.fd (h : ObAt xs cs a o) (hrt : cs.all Cl.rt = true) : fdT xs cs a = o.th ∧ fdX xs cs a = 0 := by
  obtain ⟨o2, o3, o4, o5, o6, o7⟩ := of_wd (m := o.m) h.ok.ri
  have o1 := L4.ofB_wd (m := o.m) h.ok.ri
  obtain ⟨b1, b2, b3, b4, _⟩ := h.ok.bd hrt
  have hl := h.len
  have h1 := h.a1
  have hC : ¬ o.C = 0 := by omega
  have hT : woT xs cs a = o.th := by
    unfold woT
    rw [h.g0, o2, o3, o4, o5, o6, o7, (L6.me_obj (by omega) hC).1, h.g1, h.ok.r, h.ok.d]
    unfold Ob.th Ob.sz
    congr 1
    all_goals (simp only [Int.natCast_add]; try rfl)
  have hb : meB xs cs a (ofC (gw xs a)) (ofM (gw xs a)) = true := by
    rw [h.g0, o2, o5, (L6.me_obj (A := 0) (F := 0) (f := false) (d := false) (by omega) hC).2, h.g1, h.ok.x]
    rfl
  rw [← hT]
  refine L6.fd_yes (by simp [oxB]; omega) (by rw [h.g0]; exact o1) hb (by rw [hT]; exact decide_eq_true (show 1 ≤ a ∧ (o.sz : Int) ≤ (xs.length : Int) - a by omega))
theorem ObAt.ob (h : ObAt xs cs a o) (hrt : cs.all Cl.rt = true) : obT xs cs a = o.th ∧ obX xs cs a = 0 := by
  obtain ⟨h1, h2⟩ := h.fd hrt
  obtain ⟨_, _, b3, _⟩ := h.ok.bd hrt
  have := L6.ob_yes (xs := xs) (cs := cs) (i := a) h2 (by rw [h1]; show ¬ o.C = 0; omega)
  exact ⟨this.1.trans h1, this.2⟩
theorem ObAt.slR (h : ObAt xs cs a o) (hrt : cs.all Cl.rt = true) {k : Nat} (hk : k < o.rs.length) : slX xs cs a k false = 0 ∧ slP xs cs a k false = a + 2 + k ∧ slV xs cs a k false = o.rs.getD k 0 := by
  obtain ⟨e1, e2⟩ := h.ob hrt
  have hx : slX xs cs a k false = 0 := by
    rw [(L6.sl_yes e2).1, e1, L6.plX, if_pos ⟨by omega, by show (k : Int) < (o.rs.length : Int); omega⟩]
  have hp : slP xs cs a k false = a + 2 + k := by
    rw [(L6.sl_bd hrt hx).1, e1]; rfl
  refine ⟨hx, hp, ?_⟩
  rw [slV, if_pos hx, hp, h.rs_ hk]
theorem ObAt.slD (h : ObAt xs cs a o) (hrt : cs.all Cl.rt = true) {k : Nat} (hk : k < o.ds.length) : slX xs cs a k true = 0 ∧ slP xs cs a k true = a + 2 + o.rs.length + k := by
  obtain ⟨e1, e2⟩ := h.ob hrt
  have hx : slX xs cs a k true = 0 := by
    rw [(L6.sl_yes e2).1, e1, L6.plX, if_pos ⟨by omega, by show (k : Int) < (o.ds.length : Int); omega⟩]
  refine ⟨hx, ?_⟩
  rw [(L6.sl_bd hrt hx).1, e1]; rfl

theorem ObAt.keep (h : ObAt xs cs a o) (he : ∀ j, a.toNat ≤ j → j < a.toNat + o.sz → ys[j]? = xs[j]?) : ObAt ys cs a o :=
  ⟨h.a1, h.ok, fun j hj => (he _ (by omega) (by rw [enc_length] at hj; omega)).trans (h.w j hj)⟩
theorem ObAt.far (h : ObAt xs cs a o) {i : Nat} (hi : i < a.toNat ∨ a.toNat + o.sz ≤ i) (v : Int) : ObAt (xs.set i v) cs a o :=
  h.keep fun j h1 h2 => by rw [List.getElem?_set_ne (by omega)]
theorem enc_set {l : Int} {o : Ob} {k : Nat} (u : Int) (hk : k < o.rs.length) : ({ o with rs := o.rs.set k u } : Ob).enc = o.enc.set (2 + k) u := by
  show wd _ _ _ _ _ _ :: _ :: (o.rs.set k u ++ o.ds) = _
  rw [Ob.enc, show 2 + k = k + 1 + 1 by omega, List.set_cons_succ, List.set_cons_succ, List.set_append, if_pos hk]
theorem enc_setD {l : Int} {o : Ob} {k : Nat} (u : Int) (hk : k < o.ds.length) : ({ o with ds := o.ds.set k u } : Ob).enc = o.enc.set (2 + o.rs.length + k) u := by
  show wd _ _ _ _ _ _ :: _ :: (o.rs ++ o.ds.set k u) = _
  rw [Ob.enc, show 2 + o.rs.length + k = o.rs.length + k + 1 + 1 by omega, List.set_cons_succ, List.set_cons_succ, List.set_append, if_neg (by omega), show o.rs.length + k - o.rs.length = k by omega]
theorem has_set {zs : List Int} (h : Has xs a zs) (hl : a.toNat + zs.length ≤ xs.length) (k : Nat) (u : Int) : Has (xs.set (a.toNat + k) u) a (zs.set k u) := by
  intro j hj
  rw [List.length_set] at hj
  by_cases e : k = j
  · subst e
    rw [List.getElem?_set_self (by omega), List.getElem?_set_self (by omega)]
  · rw [List.getElem?_set_ne (by omega), List.getElem?_set_ne (by omega)]
    exact h j hj
theorem ObAt.setR (h : ObAt xs cs a o) {k : Nat} (hk : k < o.rs.length) (u : Int) : ObAt (xs.set (a.toNat + (2 + k)) u) cs a { o with rs := o.rs.set k u } :=
  ⟨h.a1, ⟨h.ok.ri, h.ok.c, h.ok.x, by rw [h.ok.r]; simp, h.ok.d⟩, by
    rw [enc_set (l := 0) u hk]
    exact has_set h.w (by rw [enc_length]; exact h.len) _ u⟩
theorem ObAt.setD (h : ObAt xs cs a o) {k : Nat} (hk : k < o.ds.length) (u : Int) : ObAt (xs.set (a.toNat + (2 + o.rs.length + k)) u) cs a { o with ds := o.ds.set k u } :=
  ⟨h.a1, ⟨h.ok.ri, h.ok.c, h.ok.x, h.ok.r, by rw [h.ok.d]; simp⟩, by
    rw [enc_setD (l := 0) u hk]
    exact has_set h.w (by rw [enc_length]; exact h.len) _ u⟩
/-- Another head of the same class. -/
def Ob.hd (o : Ob) (A F : Int) (m f d : Bool) : Ob := ⟨o.C, A, F, m, f, d, o.l, o.rs, o.ds⟩
theorem ObAt.setH (h : ObAt xs cs a o) {A F : Int} {m f d : Bool} (hr : riB o.C A F f d = true) : ObAt (xs.set a.toNat (wd o.C A F m f d)) cs a (o.hd A F m f d) :=
  ⟨h.a1, ⟨hr, h.ok.c, h.ok.x, h.ok.r, h.ok.d⟩, by
    have := has_set h.w (by rw [enc_length]; exact h.len) 0 (wd o.C A F m f d)
    exact this⟩
theorem splice_get (xs ys : List Int) (k j : Nat) (hk : k + ys.length ≤ xs.length) : (splice xs k ys)[j]? = if k ≤ j ∧ j < k + ys.length then ys[j - k]? else xs[j]? := by
  unfold splice
  rcases Nat.lt_or_ge j k with h1 | h1
  · rw [if_neg (by omega), List.getElem?_append_left (by rw [List.length_take]; omega), List.getElem?_take, if_pos h1]
  · rcases Nat.lt_or_ge j (k + ys.length) with h2 | h2
    · rw [if_pos ⟨h1, h2⟩, List.getElem?_append_right (by rw [List.length_take]; omega), List.getElem?_append_left (by rw [List.length_take]; omega)]
      congr 1
      rw [List.length_take]; omega
    · rw [if_neg (by omega), List.getElem?_append_right (by rw [List.length_take]; omega), List.getElem?_append_right (by rw [List.length_take]; omega), List.getElem?_drop]
      congr 1
      rw [List.length_take]; omega
/-- Words that are moved. -/
def mvW (xs : List Int) (to fr n : Nat) : List Int := splice xs to ((xs.drop fr).take n)
theorem mvW_get {to fr n : Nat} (h1 : to + n ≤ xs.length) (h2 : fr + n ≤ xs.length) (j : Nat) : (mvW xs to fr n)[j]? = if to ≤ j ∧ j < to + n then xs[fr + (j - to)]? else xs[j]? := by
  have hl : ((xs.drop fr).take n).length = n := by rw [List.length_take, List.length_drop]; omega
  rw [mvW, splice_get _ _ _ _ (by omega), hl]
  split
  · rename_i hj
    rw [List.getElem?_take, if_pos (by omega), List.getElem?_drop]
  · rfl
theorem mvW_length {to fr n : Nat} (h1 : to + n ≤ xs.length) (h2 : fr + n ≤ xs.length) : (mvW xs to fr n).length = xs.length := by
  unfold mvW splice
  simp only [List.length_append, List.length_take, List.length_drop]
  omega
theorem ObAt.moved {to : Int} (h : ObAt xs cs a o) (ht : 1 ≤ to) (hl : to.toNat + o.sz ≤ xs.length) : ObAt (mvW xs to.toNat a.toNat o.sz) cs to o :=
  ⟨ht, h.ok, fun j hj => by
    rw [enc_length] at hj
    rw [mvW_get hl h.len, if_pos (by omega), show a.toNat + (to.toNat + j - to.toNat) = a.toNat + j by omega]
    exact h.w j (by rw [enc_length]; exact hj)⟩
theorem ObAt.unmoved {to fr n : Nat} (h : ObAt xs cs a o) (h1 : to + n ≤ xs.length) (h2 : fr + n ≤ xs.length) (hf : to + n ≤ a.toNat ∨ a.toNat + o.sz ≤ to) : ObAt (mvW xs to fr n) cs a o :=
  h.keep fun j h3 h4 => by rw [mvW_get h1 h2, if_neg (by omega)]
/-- A new object of a class. -/
def newO (C l : Int) (c : Cl) : Ob := ⟨C, 0, 0, false, c.f, false, l, List.replicate (shR (some c) l).toNat 0, List.replicate (shD (some c) l).toNat 0⟩
end

/-- Objects side by side, from an address on up to another one. -/
def Seg (xs : List Int) (cs : List Cl) (ob : Int → Ob) : Int → List Int → Int → Prop
  | a, [], b => a = b
  | a, x :: L, b => x = a ∧ ObAt xs cs a (ob a) ∧ Seg xs cs ob (a + (ob a).sz) L b
section
variable {xs ys : List Int} {cs : List Cl} {ob ob' : Int → Ob} {a b c x : Int} {L M : List Int}
theorem Seg.app (h : Seg xs cs ob a L b) (k : Seg xs cs ob b M c) : Seg xs cs ob a (L ++ M) c := by
  induction L generalizing a with
  | nil => rw [show a = b from h]; exact k
  | cons x L ih => exact ⟨h.1, h.2.1, ih h.2.2⟩
theorem Seg.cut (h : Seg xs cs ob a (L ++ M) c) : ∃ b, Seg xs cs ob a L b ∧ Seg xs cs ob b M c := by
  induction L generalizing a with
  | nil => exact ⟨a, rfl, h⟩
  | cons x L ih =>
    obtain ⟨b, h1, h2⟩ := ih h.2.2
    exact ⟨b, ⟨h.1, h.2.1, h1⟩, h2⟩
theorem Seg.at_ (h : Seg xs cs ob a L b) (hx : x ∈ L) : ObAt xs cs x (ob x) := by
  induction L generalizing a with
  | nil => cases hx
  | cons y L ih =>
    rcases List.mem_cons.1 hx with rfl | hx
    · rw [h.1]; exact h.2.1
    · exact ih h.2.2 hx
theorem Seg.sum (h : Seg xs cs ob a L b) : a + szs ob L = b := by
  induction L generalizing a with
  | nil => rw [show a = b from h, szs_nil]; simp
  | cons y L ih =>
    have := ih h.2.2
    rw [szs_cons, h.1]
    simp only [Int.natCast_add]
    omega
theorem Seg.le (h : Seg xs cs ob a L b) : a ≤ b := by have := h.sum; omega
theorem Seg.bd (h : Seg xs cs ob a L b) (hx : x ∈ L) : a ≤ x ∧ x + (ob x).sz ≤ b := by
  induction L generalizing a with
  | nil => cases hx
  | cons y L ih =>
    have hle := h.2.2.le
    rcases List.mem_cons.1 hx with rfl | hx
    · rw [h.1]; exact ⟨Int.le_refl _, hle⟩
    · have := ih h.2.2 hx
      omega
theorem sz_pos (o : Ob) : 2 ≤ o.sz := by unfold Ob.sz; omega
theorem Seg.nodup (h : Seg xs cs ob a L b) : L.Nodup := by
  induction L generalizing a with
  | nil => exact List.nodup_nil
  | cons y L ih =>
    refine List.nodup_cons.2 ⟨fun hm => ?_, ih h.2.2⟩
    have := h.2.2.bd hm
    have h1 := h.1
    have := sz_pos (ob a)
    omega
/-- Two objects of one stretch lie apart. -/
theorem Seg.apart {y : Int} (h : Seg xs cs ob a L b) (hx : x ∈ L) (hy : y ∈ L) (hne : x ≠ y) : x + (ob x).sz ≤ y ∨ y + (ob y).sz ≤ x := by
  induction L generalizing a with
  | nil => cases hx
  | cons z L ih =>
    obtain ⟨h1, h2, h3⟩ := h
    rcases List.mem_cons.1 hx with ex | hx <;> rcases List.mem_cons.1 hy with ey | hy
    · omega
    · have := h3.bd hy
      rw [ex, h1]; exact .inl this.1
    · have := h3.bd hx
      rw [ey, h1]; exact .inr this.1
    · exact ih h3 hx hy
theorem Seg.keep (h : Seg xs cs ob a L b) (he : ∀ x ∈ L, ob' x = ob x ∧ ObAt ys cs x (ob x)) : Seg ys cs ob' a L b := by
  induction L generalizing a with
  | nil => exact h
  | cons y L ih =>
    obtain ⟨h1, h2, h3⟩ := h
    obtain ⟨e1, e2⟩ := he y (List.mem_cons_self ..)
    rw [h1] at e1 e2
    refine ⟨h1, by rw [e1]; exact e2, ?_⟩
    rw [e1]
    exact ih h3 fun x hx => he x (List.mem_cons_of_mem _ hx)
/-- Objects of the same size in their places. -/
theorem Seg.put (h : Seg xs cs ob a L b) (he : ∀ x ∈ L, (ob' x).sz = (ob x).sz ∧ ObAt ys cs x (ob' x)) : Seg ys cs ob' a L b := by
  induction L generalizing a with
  | nil => exact h
  | cons y L ih =>
    obtain ⟨h1, h2, h3⟩ := h
    obtain ⟨e1, e2⟩ := he y (List.mem_cons_self ..)
    rw [h1] at e1 e2
    refine ⟨h1, e2, ?_⟩
    rw [e1]
    exact ih h3 fun x hx => he x (List.mem_cons_of_mem _ hx)
theorem Seg.one (h : ObAt xs cs a (ob a)) : Seg xs cs ob a [a] (a + (ob a).sz) := ⟨rfl, h, rfl⟩
/-- They are walked through. -/
theorem Seg.wk (hrt : cs.all Cl.rt = true) (h : Seg xs cs ob a L b) : Wk xs cs b a L 0 := by
  induction L generalizing a with
  | nil => rw [show a = b from h]; exact .done _ (Int.le_refl _)
  | cons y L ih =>
    obtain ⟨h1, h2, h3⟩ := h
    obtain ⟨e1, e2⟩ := h2.fd hrt
    obtain ⟨_, _, b3, _⟩ := h2.ok.bd hrt
    have hw : (fdT xs cs a).w = (ob a).sz := by rw [e1]; rfl
    have hC : ¬ (fdT xs cs a).C = 0 := by rw [e1]; show ¬ (ob a).C = 0; omega
    have hle := h3.le
    have := sz_pos (ob a)
    rw [h1]
    exact .obj _ _ _ (by omega) e2 (by rw [hw]; omega) hC (by rw [hw]; exact ih h3)
end
end Go.Proofs.YtogfjclmohpjkaaGreatDoor.L15
