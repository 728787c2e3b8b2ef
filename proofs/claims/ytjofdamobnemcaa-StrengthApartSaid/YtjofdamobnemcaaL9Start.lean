/- How the laws begin: a table, a graph of it, another one beside it. Conditions: none. -/
import Derived.Test.YtjofdamobnemcaaL9Awake
import Derived.Test.YtjofdamobnemcaaL9Play
import Derived.Test.YtjofdamobnemcaaL9Same
import Derived.Test.YtjofdamobnemcaaL5Ref
import Derived.ShutString
namespace Go.Proofs.Ytjofdamobnemcaa.L9
open Go.ChangeShapes Go.WideShapes Go.ChangeAt Go.RowKit
open Go.Proofs.Ytjofdamobnemcaa.L5 (Cl clV rtB Tb clAt shX shR shD woV hoB IsCls newX isRf)
set_option linter.unusedVariables false

/-- A table that lies ahead of z. -/
def Tz (w : World) (z tb : Nat) (cs : List Cl) : Prop := ∃ base v, Tb w base (some ⟨tb, 0, none⟩) v cs ∧ (tb < z ∧ ∀ k, v.ownBlock = some k → k < z) ∧ cs.length ≤ 100 ∧ cs.all L5.Cl.rt = true
section
variable {w w' w0 : World} {z tb p q : Nat} {S T Sg Sh : Nat → Prop} {cs : List Cl} {L Lg Lh : List Nd} {a : Option Addr} {len cap : Nat} {l : List Oq}
theorem newX_rt (h : newX cs = 0) : cs.all L5.Cl.rt = true ∧ cs.length ≤ 100 := by
  unfold newX at h
  split at h
  · rename_i h1
    split at h
    · exact ⟨h1, by omega⟩
    · cases h
  · cases h
theorem new_tz (h : IsCls w a len cap cs) (hl : len ≤ 100) (hX : newX cs = 0) :
    Calls Try.prog 15 #[.slice a len cap] w fun e w' => ∃ g, e = .returned (.tuple #[ptr g, .int .i64 0]) ∧ Tz w' w'.heap.size g cs ∧ Grow w w' :=
  (L5.new_yes w h hl hX).mono fun e w' ⟨g, v, he, ht, hg⟩ => by
    refine ⟨g, he, ⟨_, v, ht, ⟨?_, fun k hk => (ht.1.lt k hk).2⟩, (newX_rt hX).2, (newX_rt hX).1⟩, hg⟩
    rcases ht.2 with ⟨h, _⟩ | ⟨g', e, _, hb⟩
    · cases h
    · injection e with e; injection e with e; subst e; exact hb.lt
theorem Tz.grow (h : Tz w z tb cs) (c : Grow w w') : Tz w' z tb cs := by
  obtain ⟨base, v, h1, h2, h3, h4⟩ := h
  exact ⟨base, v, h1.grow c, h2, h3, h4⟩
theorem Tz.chg (h : Tz w z tb cs) (c : Chg T w w') (hT : ∀ k, T k → z ≤ k) : Tz w' z tb cs := by
  obtain ⟨base, v, h1, h2, h3, h4⟩ := h
  exact ⟨base, v, Tb.chgT h1 h2.1 h2.2 c hT, h2, h3, h4⟩
theorem new_gr (h : Tz w z tb cs) (hz : z ≤ w.heap.size) :
    Calls Try.prog 16 #[ptr tb] w fun e w' => ∃ p S, e = .returned (ptr p) ∧ Grow w w' ∧ GS w' z S p cs [] ∧ ∀ k, S k → w.heap.size ≤ k := by
  obtain ⟨base, v, h1, h2, h3, h4⟩ := h
  exact new_gs h1 h2 hz h3 h4
/-- Two graphs, apart. -/
structure Two (w : World) (z : Nat) (Sg Sh : Nat → Prop) (p q : Nat) (cs : List Cl) (Lg Lh : List Nd) : Prop where
  g : GS w z Sg p cs Lg
  h : GS w z Sh q cs Lh
  ap : ∀ k, Sg k → ¬ Sh k
theorem Two.grow (h : Two w z Sg Sh p q cs Lg Lh) (c : Grow w w') : Two w' z Sg Sh p q cs Lg Lh := ⟨h.g.grow c, h.h.grow c, h.ap⟩
theorem Two.fst (h : Two w z Sg Sh p q cs Lg Lh) (c : Chg Sg w w') {Lg' : List Nd} (hg : GS w' z Sg p cs Lg') : Two w' z Sg Sh p q cs Lg' Lh :=
  ⟨hg, h.h.chg c (fun k hk => (h.g.s hk).1) (fun k hk hs => h.ap k hs hk), h.ap⟩
theorem Two.fst' (h : Two w z Sg Sh p q cs Lg Lh) (hp : Pl w w' z Sg p cs L) : ∃ Sg', Two w' z Sg' Sh p q cs L Lh ∧ (Chg Sg w w') := by
  obtain ⟨S', h1, h2, h3⟩ := hp
  refine ⟨S', ⟨h1, h.h.chg h2 (fun k hk => (h.g.s hk).1) (fun k hk hs => h.ap k hs hk), fun k hk hs => ?_⟩, h2⟩
  rcases h3 k hk with h4 | h4
  · exact h.ap k h4 hs
  · have := (h.h.s hs).2; omega
theorem Two.snd' (h : Two w z Sg Sh p q cs Lg Lh) (hp : Pl w w' z Sh q cs L) : ∃ Sh', Two w' z Sg Sh' p q cs Lg L ∧ (Chg Sh w w') := by
  obtain ⟨S', h1, h2, h3⟩ := hp
  refine ⟨S', ⟨h.g.chg h2 (fun k hk => (h.h.s hk).1) (fun k hk hs => h.ap k hk hs), h1, fun k hk hs => ?_⟩, h2⟩
  rcases h3 k hs with h4 | h4
  · exact h.ap k hk h4
  · have := (h.g.s hk).2; omega
theorem GS.chgz (h : GS w z S p cs L) (c : Chg S w w') : Chg (fun k => z ≤ k) w w' := c.mono fun k _ hk => (h.s hk).1
theorem fewB_ll (h : fewB l = true) : l.length ≤ 100 ∧ ∀ o ∈ l, o.ll ≤ 100 := by
  unfold fewB at h
  rw [Bool.and_eq_true] at h
  refine ⟨by simpa using h.1, fun o ho => ?_⟩
  have := List.all_eq_true.1 h.2 o ho
  simpa using this
theorem pl_bd (h : fewB l = true) : (plL cs [] l).length ≤ 100 := by
  have h1 := plL_len cs l []
  have h2 := (fewB_ll h).1
  simp at h1
  omega
end
end Go.Proofs.Ytjofdamobnemcaa.L9
