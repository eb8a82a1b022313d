import PyProof.Rows.All
import Wide.All
import OpenK.AllK
import Wide.FinOn
import HandS.ForMost
import HandS.ForExc
import HandS.Wide
import HandS.Conv
import HandS.Codes
import HandS.Walk
import HandS.IsInst
import HandS.ExcInit
import HandS.ExcIs
import HandS.ExcField
import PyProof.ReprDict
import KE.OsGo
import PyProof.Rows.NestShow
import HandS.SetFor
import HandS.DictComp
import PySem.Challenge.RW_downhillnet_k52_errors_keep_any_value
set_option Elab.async false
set_option linter.all false
set_option maxRecDepth 100000
set_option maxHeartbeats 4000000
/-! ground: powers of great ints, the pot of draws -/
namespace DN
open PySem PySem.Spec PyProof.Rows L2

/-- ** of a base and a power of together at most 2 ^ 27 bits -/
def CPowW (i j : Int) : Prop := 0 ≤ j ∧ (Builtin.Int.intBits i : Int) * j ≤ 2 ^ 27
section
variable {X : Cx}
theorem op_powW : OpR X (binaryOp .Pow) (rI CPowW fun i j => .int (i ^ j.toNat)) := opI fun _ _ _ _ _ _ _ hc q => pow_int hc.1 hc.2 q
end
theorem powW_of {i j : Int} {a : Nat} (ha : i.natAbs < 2 ^ a) (h0 : 0 < a) (hj : 0 ≤ j) (h : (a + 1 : Int) * j ≤ 2 ^ 27) : CPowW i j := by
  refine ⟨hj, Int.le_trans (Int.mul_le_mul_of_nonneg_right ?_ hj) h⟩
  have x := PySem.Flt.log2_lt_of h0 ha
  unfold Builtin.Int.intBits
  split <;> omega
end DN

/-! ground 1: data, what a heap says of them, judgements over data -/
namespace DN
open PySem PySem.Spec PyProof.Rows L2

inductive D where
  | non | bl (b : Bool) | int (i : Int) | str (s : Str) | tup (l : List D) | lst (l : List D) | dct (l : List (Key × D)) | ins (C : Addr) (l : List (Str × D)) | exc (C : Addr) (d : D) | opq (v : V) | scr (ns : List Int)

mutual
inductive At (K : PySem.W.Frag) (G : Hp) : V → D → Prop
  | non : At K G .non .non
  | bl (b : Bool) : At K G (.bl b) (.bl b)
  | int (i : Int) : At K G (.int i) (.int i)
  | str (s : Str) : At K G (.str s) (.str s)
  | tup {a : Addr} {xs : List V} {ds : List D} : SqT K G a xs → AtL K G xs ds → At K G (.ref a) (.tup ds)
  | lst {a : Addr} {xs : List V} {ds : List D} : G a = some (.lst xs) → AtL K G xs ds → At K G (.ref a) (.lst ds)
  | dct {a : Addr} {kvs : List (Key × V)} {es : List (Key × D)} : G a = some (.dK kvs) → AtK K G kvs es → At K G (.ref a) (.dct es)
  | ins {a C dx : Addr} {fs : List (Str × V)} {es : List (Str × D)} : G a = some (.ins C dx fs) → AtF K G fs es → At K G (.ref a) (.ins C es)
  | exc {a C dx : Addr} {v : V} {d : D} : G a = some (exo a C (some dx)) → G dx = some (exd dx [("value", v)]) → At K G v d → At K G (.ref a) (.exc C d)
  | opq (v : V) : At K G v (.opq v)
  | scr {a : Addr} {ns : List Int} : SqL K G a (ns.map V.int) → At K G (.ref a) (.scr ns)
inductive AtL (K : PySem.W.Frag) (G : Hp) : List V → List D → Prop
  | nil : AtL K G [] []
  | cons {v : V} {vs : List V} {d : D} {ds : List D} : At K G v d → AtL K G vs ds → AtL K G (v :: vs) (d :: ds)
inductive AtK (K : PySem.W.Frag) (G : Hp) : List (Key × V) → List (Key × D) → Prop
  | nil : AtK K G [] []
  | cons {k : Key} {v : V} {vs : List (Key × V)} {d : D} {ds : List (Key × D)} : At K G v d → AtK K G vs ds → AtK K G ((k, v) :: vs) ((k, d) :: ds)
inductive AtF (K : PySem.W.Frag) (G : Hp) : List (Str × V) → List (Str × D) → Prop
  | nil : AtF K G [] []
  | cons {k : Str} {v : V} {vs : List (Str × V)} {d : D} {ds : List (Str × D)} : At K G v d → AtF K G vs ds → AtF K G ((k, v) :: vs) ((k, d) :: ds)
end

theorem Same.rd {H H' : Hp} {a : Addr} {u : HO} (e : Same H H') (h : Rd H a u) : Rd H' a u := by
  rcases h with h | ⟨o, h⟩
  · exact .inl (e _ _ h)
  · exact .inr ⟨o, e _ _ h⟩
theorem Same.sqT {K : PySem.W.Frag} {H H' : Hp} {a : Addr} {xs : List V} (e : Same H H') (h : SqT K H a xs) : SqT K H' a xs := by
  rcases h with h | h
  · exact .inl (Same.rd e h)
  · exact .inr h
theorem Same.sqL {K : PySem.W.Frag} {H H' : Hp} {a : Addr} {xs : List V} (e : Same H H') (h : SqL K H a xs) : SqL K H' a xs := Same.seq e h
theorem same_new {H : Hp} {p : Addr} {o : HO} (h : H p = none) : Same H (upd H p o) := fun a u e => by
  rw [upd_ne (ne_of_none e h)]
  exact e

section
variable {K : PySem.W.Frag} {G G' : Hp}
theorem At.mono (e : Same G G') {v : V} {d : D} (h : At K G v d) : At K G' v d :=
  At.rec (motive_1 := fun v d _ => At K G' v d) (motive_2 := fun vs ds _ => AtL K G' vs ds) (motive_3 := fun vs ds _ => AtK K G' vs ds) (motive_4 := fun vs ds _ => AtF K G' vs ds)
    .non .bl .int .str (fun h _ ih => .tup (Same.sqT e h) ih) (fun h _ ih => .lst (e _ _ h) ih) (fun h _ ih => .dct (e _ _ h) ih) (fun h _ ih => .ins (e _ _ h) ih) (fun h h2 _ ih => .exc (e _ _ h) (e _ _ h2) ih) .opq (fun h => .scr (Same.sqL e h))
    .nil (fun _ _ i1 i2 => .cons i1 i2) .nil (fun _ _ i1 i2 => .cons i1 i2) .nil (fun _ _ i1 i2 => .cons i1 i2) h
theorem AtL.mono (e : Same G G') : ∀ {vs : List V} {ds : List D}, AtL K G vs ds → AtL K G' vs ds
  | _, _, .nil => .nil
  | _, _, .cons h t => .cons (h.mono e) (AtL.mono e t)
theorem AtK.mono (e : Same G G') : ∀ {vs : List (Key × V)} {ds : List (Key × D)}, AtK K G vs ds → AtK K G' vs ds
  | _, _, .nil => .nil
  | _, _, .cons h t => .cons (h.mono e) (AtK.mono e t)
theorem AtL.len : ∀ {vs : List V} {ds : List D}, AtL K G vs ds → vs.length = ds.length
  | _, _, .nil => rfl
  | _, _, .cons _ t => congrArg (· + 1) (AtL.len t)
theorem AtL.app : ∀ {vs ws : List V} {ds es : List D}, AtL K G vs ds → AtL K G ws es → AtL K G (vs ++ ws) (ds ++ es)
  | _, _, _, _, .nil, h => h
  | _, _, _, _, .cons h t, u => .cons h (AtL.app t u)
theorem AtL.get : ∀ {vs : List V} {ds : List D} {i : Nat} {d : D}, AtL K G vs ds → ds[i]? = some d → ∃ v, vs[i]? = some v ∧ At K G v d
  | _, _, _, _, .nil, e => by simp at e
  | _, _, 0, _, .cons h _, e => by
    have e' := Option.some.inj e
    subst e'
    exact ⟨_, rfl, h⟩
  | _, _, i + 1, d, .cons _ t, e => by
    obtain ⟨v, h1, h2⟩ := AtL.get (i := i) (d := d) t (by simpa using e)
    exact ⟨v, by simpa using h1, h2⟩
theorem AtL.getv : ∀ {vs : List V} {ds : List D} {i : Nat} {v : V}, AtL K G vs ds → vs[i]? = some v → ∃ d, ds[i]? = some d ∧ At K G v d
  | _, _, _, _, .nil, e => by simp at e
  | _, _, 0, _, .cons h _, e => by
    have e' := Option.some.inj e
    subst e'
    exact ⟨_, rfl, h⟩
  | _, _, i + 1, d, .cons _ t, e => by
    obtain ⟨v, h1, h2⟩ := AtL.getv (i := i) (v := d) t (by simpa using e)
    exact ⟨v, by simpa using h1, h2⟩
theorem AtL.take (n : Nat) : ∀ {vs : List V} {ds : List D}, AtL K G vs ds → AtL K G (vs.take n) (ds.take n) := by
  induction n with
  | zero => intro vs ds _; simpa using AtL.nil
  | succ n ih =>
    intro vs ds h
    cases h with
    | nil => simpa using AtL.nil
    | cons h t => simpa using AtL.cons h (ih t)
theorem AtL.drop (n : Nat) : ∀ {vs : List V} {ds : List D}, AtL K G vs ds → AtL K G (vs.drop n) (ds.drop n) := by
  induction n with
  | zero => intro vs ds h; simpa using h
  | succ n ih =>
    intro vs ds h
    cases h with
    | nil => simpa using AtL.nil
    | cons h t => simpa using ih t
theorem AtL.ints : ∀ {vs : List V} {ns : List Int}, AtL K G vs (ns.map D.int) → vs = ns.map V.int
  | _, [], .nil => rfl
  | _, n :: r, .cons h t => by
    cases h
    rw [AtL.ints t]; rfl
theorem AtL.strs : ∀ {vs : List V} {ns : List Str}, AtL K G vs (ns.map D.str) → vs = ns.map V.str
  | _, [], .nil => rfl
  | _, n :: r, .cons h t => by
    cases h
    rw [AtL.strs t]; rfl
theorem AtL.bls : ∀ {vs : List V} {ns : List Bool}, AtL K G vs (ns.map D.bl) → vs = ns.map V.bl
  | _, [], .nil => rfl
  | _, n :: r, .cons h t => by
    cases h
    rw [AtL.bls t]; rfl
theorem atL_ints : ∀ (ns : List Int), AtL K G (ns.map V.int) (ns.map D.int)
  | [] => .nil
  | n :: r => .cons (.int n) (atL_ints r)
theorem atL_strs : ∀ (ns : List Str), AtL K G (ns.map V.str) (ns.map D.str)
  | [] => .nil
  | n :: r => .cons (.str n) (atL_strs r)
theorem atL_bls : ∀ (ns : List Bool), AtL K G (ns.map V.bl) (ns.map D.bl)
  | [] => .nil
  | n :: r => .cons (.bl n) (atL_bls r)
end

/-! ### the pot -/
def potO (o b c : Int) : HO := .lst [.int o, .int b, .int c]
structure PotB (o b c : Int) (m : Nat) : Prop where
  o0 : 0 ≤ o
  o1 : o.natAbs < 2 ^ 1100
  b0 : 0 ≤ b
  b1 : b < 2 ^ 62
  c0 : 0 ≤ c
  c1 : c ≤ m
def Pot (m : Nat) (H : Hp) (a : Addr) : Prop := ∃ o b c, H a = some (potO o b c) ∧ PotB o b c m
theorem Pot.le {m n : Nat} {H : Hp} {a : Addr} (h : Pot m H a) (e : m ≤ n) : Pot n H a := by
  obtain ⟨o, b, c, h, B⟩ := h
  exact ⟨o, b, c, h, ⟨B.o0, B.o1, B.b0, B.b1, B.c0, by have := B.c1; omega⟩⟩
def PotS : Option Addr → Nat → Hp → Prop
  | none, _, _ => True
  | some a, m, H => Pot m H a
abbrev Mx : Nat := 2 ^ 40

/-! ### from one heap to another -/
structure Gd (ρ : Option Addr) (G H G' H' : Hp) : Prop where
  keep : ∀ b o, ρ ≠ some b → H b = some o → H' b = some o
  gg : Same G G'
  sub : Same G' H'
  new : ∀ b, G' b ≠ none → G b ≠ none ∨ H b = none
theorem Gd.refl {ρ : Option Addr} {G H : Hp} (h : Same G H) : Gd ρ G H G H := ⟨fun _ _ _ e => e, Same.refl _, h, fun _ e => .inl e⟩
theorem Gd.weak {ρ : Option Addr} {G H G' H' : Hp} (h : Gd none G H G' H') : Gd ρ G H G' H' := ⟨fun b o _ e => h.keep b o (by simp) e, h.gg, h.sub, h.new⟩
theorem ne_none_of {H : Hp} {b : Addr} {o : HO} (h : H b = some o) : H b ≠ none := by rw [h]; simp
theorem Gd.trans {ρ : Option Addr} {G H G1 H1 G2 H2 : Hp} {m : Nat} (p : PotS ρ m H1) (a : Gd ρ G H G1 H1) (b : Gd ρ G1 H1 G2 H2) : Gd ρ G H G2 H2 where
  keep := fun c o n e => b.keep c o n (a.keep c o n e)
  gg := a.gg.trans b.gg
  sub := b.sub
  new := fun c e => by
    rcases b.new c e with h | h
    · exact a.new c h
    · cases q : H c with
      | none => exact .inr rfl
      | some o =>
        by_cases z : ρ = some c
        · subst z
          obtain ⟨_, _, _, hp, _⟩ := p
          rw [hp] at h; cases h
        · rw [a.keep c o z q] at h; cases h
theorem Gd.trans0 {G H G1 H1 G2 H2 : Hp} (a : Gd none G H G1 H1) (b : Gd none G1 H1 G2 H2) : Gd none G H G2 H2 := Gd.trans (m := 0) trivial a b
/-- a new object, known from now on -/
theorem Gd.alloc {G H : Hp} {p : Addr} {o : HO} (h : Same G H) (n : H p = none) : Gd none G H (upd G p o) (upd H p o) where
  keep := fun b u _ e => by rw [upd_ne (ne_of_none e n)]; exact e
  gg := same_new (h.free n)
  sub := fun b u e => by
    by_cases z : b = p
    · subst z; rw [upd_same] at e ⊢; exact e
    · rw [upd_ne z] at e ⊢; exact h _ _ e
  new := fun b e => by
    by_cases z : b = p
    · subst z; exact .inr n
    · rw [upd_ne z] at e; exact .inl e
/-- a new object, not known -/
theorem Gd.alloc0 {G H : Hp} {p : Addr} {o : HO} (h : Same G H) (n : H p = none) : Gd none G H G (upd H p o) where
  keep := fun b u _ e => by rw [upd_ne (ne_of_none e n)]; exact e
  gg := Same.refl _
  sub := h.trans (same_new n)
  new := fun b e => .inl e

/-! ### slots -/
inductive OAt (K : PySem.W.Frag) (G : Hp) : HO → D → Prop
  | lst {xs : List V} {ds : List D} : AtL K G xs ds → OAt K G (.lst xs) (.lst ds)
  | dct {kvs : List (Key × V)} {es : List (Key × D)} : AtK K G kvs es → OAt K G (.dK kvs) (.dct es)
theorem OAt.mono {K : PySem.W.Frag} {G G' : Hp} (e : Same G G') {o : HO} {d : D} (h : OAt K G o d) : OAt K G' o d := by
  cases h with
  | lst h => exact .lst (h.mono e)
  | dct h => exact .dct (h.mono e)
theorem OAt.at {K : PySem.W.Frag} {G : Hp} {o : HO} {d : D} {p : Addr} (h : OAt K G o d) (hp : G p = some o) : At K G (.ref p) d := by
  cases h with
  | lst h => exact .lst hp h
  | dct h => exact .dct hp h
/-- a slot: a datum that stays as it is; a list or dict of the def's own that may grow -/
inductive Sl where
  | val (d : D) | own (d : D)
abbrev Dl := List (Option Sl)
def SlotOk (K : PySem.W.Frag) (H0 G H : Hp) (v : V) : Sl → Prop
  | .val d => At K G v d
  | .own d => ∃ p o, v = .ref p ∧ H p = some o ∧ OAt K G o d ∧ G p = none ∧ H0 p = none
structure Wf (ρ : Option Addr) (K : PySem.W.Frag) (G0 H0 G H : Hp) (σ : L2.St) (δ : Dl) (m : Nat) : Prop where
  len : σ.length = δ.length
  gd : Gd ρ G0 H0 G H
  pot : PotS ρ m H
  pot0 : ∀ a, ρ = some a → H0 a ≠ none ∧ G0 a = none
  sl : ∀ (i : Nat) (s : Sl), δ[i]? = some (some s) → ∃ v, σ[i]? = some (some v) ∧ SlotOk K H0 G H v s
  ap : ∀ (i j : Nat) (d e : D), i ≠ j → δ[i]? = some (some (.own d)) → δ[j]? = some (some (.own e)) → σ[i]? ≠ σ[j]?
theorem Wf.step {ρ : Option Addr} {K : PySem.W.Frag} {G0 H0 G H G' H' : Hp} {σ : L2.St} {δ : Dl} {m m' : Nat} (w : Wf ρ K G0 H0 G H σ δ m) (g : Gd ρ G H G' H') (p : PotS ρ m' H') : Wf ρ K G0 H0 G' H' σ δ m' where
  len := w.len
  gd := Gd.trans w.pot w.gd g
  pot := p
  pot0 := w.pot0
  sl := fun i s e => by
    obtain ⟨v, h1, h2⟩ := w.sl i s e
    refine ⟨v, h1, ?_⟩
    cases s with
    | val d => exact At.mono g.gg h2
    | own ds =>
      obtain ⟨q, xs, rfl, hq, ha, hn, h0⟩ := h2
      have nr : ρ ≠ some q := fun z => (w.pot0 q z).1 h0
      refine ⟨q, xs, rfl, g.keep q _ nr hq, OAt.mono g.gg ha, ?_, h0⟩
      cases z : G' q with
      | none => rfl
      | some o =>
        rcases g.new q (ne_none_of z) with y | y
        · exact absurd hn y
        · rw [hq] at y; cases y
  ap := w.ap
theorem Wf.gnone {ρ : Option Addr} {K : PySem.W.Frag} {G0 H0 G H : Hp} {σ : L2.St} {δ : Dl} {m : Nat} {a : Addr} (w : Wf ρ K G0 H0 G H σ δ m) (e : ρ = some a) : G a = none := by
  obtain ⟨h1, h2⟩ := w.pot0 a e
  cases z : G a with
  | none => rfl
  | some o =>
    rcases w.gd.new a (ne_none_of z) with y | y
    · exact absurd h2 y
    · exact absurd y h1
theorem PotS.keep {ρ : Option Addr} {m : Nat} {G H G' H' : Hp} (p : PotS ρ m H) (g : Gd none G H G' H') : PotS ρ m H' := by
  cases ρ with
  | none => trivial
  | some a =>
    obtain ⟨o, b, c, h, B⟩ := p
    exact ⟨o, b, c, g.keep _ _ (by simp) h, B⟩

/-! ### judgements -/
section
variable (ρ : Option Addr) (K : PySem.W.Frag)
/-- te gives a datum of which P holds, by at most k draws -/
structure EJ (te : TE) (δ : Dl) (k : Nat) (P : D → Prop)  : Prop where
  run : ∀ (G0 H0 G H : Hp) (σ : L2.St) (m : Nat) (Q : VK), Wf ρ K G0 H0 G H σ δ m → m + k ≤ Mx →
  (∀ d v G' H' m', P d → Wf ρ K G0 H0 G' H' σ δ m' → Gd ρ G H G' H' → m' ≤ m + k → At K G' v d → Q v H') → te σ H Q
structure EA (ta : TA) (δ : Dl) (k : Nat) (P : List D → Prop)  : Prop where
  run : ∀ (G0 H0 G H : Hp) (σ : L2.St) (m : Nat) (Q : List V → Hp → Prop), Wf ρ K G0 H0 G H σ δ m → m + k ≤ Mx →
  (∀ ds vs G' H' m', P ds → Wf ρ K G0 H0 G' H' σ δ m' → Gd ρ G H G' H' → m' ≤ m + k → AtL K G' vs ds → Q vs H') → ta σ H Q
structure ET (tt : TT) (δ : Dl) (k : Nat) (P : Bool → Prop)  : Prop where
  run : ∀ (G0 H0 G H : Hp) (σ : L2.St) (m : Nat) (Q : Bool → Hp → Prop), Wf ρ K G0 H0 G H σ δ m → m + k ≤ Mx →
  (∀ b G' H' m', P b → Wf ρ K G0 H0 G' H' σ δ m' → Gd ρ G H G' H' → m' ≤ m + k → Q b H') → tt σ H Q
/-- the same of one datum, without draws -/
abbrev ED (te : TE) (δ : Dl) (d : D) : Prop := EJ ρ K te δ 0 (· = d)
abbrev EDA (ta : TA) (δ : Dl) (ds : List D) : Prop := EA ρ K ta δ 0 (· = ds)
abbrev EB (tt : TT) (δ : Dl) (b : Bool) : Prop := ET ρ K tt δ 0 (· = b)
/-- operations on values -/
structure RJ (r : R2) (a b c : D)  : Prop where
  run : ∀ (x y : V) (G H : Hp) (Q : VK), At K G x a → At K G y b → Same G H → (∀ v G' H', Gd none G H G' H' → At K G' v c → Q v H') → r x y H Q
structure UJ (r : V → Hp → VK → Prop) (a c : D)  : Prop where
  run : ∀ (x : V) (G H : Hp) (Q : VK), At K G x a → Same G H → (∀ v G' H', Gd none G H G' H' → At K G' v c → Q v H') → r x H Q
structure CJ (r : List V → Hp → VK → Prop) (as : List D) (c : D)  : Prop where
  run : ∀ (xs : List V) (G H : Hp) (Q : VK), AtL K G xs as → Same G H → (∀ v G' H', Gd none G H G' H' → At K G' v c → Q v H') → r xs H Q
end

section
variable {ρ : Option Addr} {K : PySem.W.Frag} {δ : Dl} {te ta tb tc : TE} {tr t : TA} {tt tu : TT} {k k1 k2 k3 : Nat} {P P1 P2 : D → Prop} {a b c d : D} {as : List D} {r : R2}
theorem EJ.mono {k' : Nat} {P' : D → Prop} (h : EJ ρ K te δ k P) (hk : k ≤ k') (hp : ∀ d, P d → P' d) : EJ ρ K te δ k' P' := .mk fun G0 H0 G H σ m Q w hm q =>
  (h).run G0 H0 G H σ m Q w (by omega) fun d v G' H' m' p w' g l x => q d v G' H' m' (hp d p) w' g (by omega) x
theorem ET.mono {k' : Nat} {P P' : Bool → Prop} (h : ET ρ K tt δ k P) (hk : k ≤ k') (hp : ∀ d, P d → P' d) : ET ρ K tt δ k' P' := .mk fun G0 H0 G H σ m Q w hm q =>
  (h).run G0 H0 G H σ m Q w (by omega) fun d G' H' m' p w' g l => q d G' H' m' (hp d p) w' g (by omega)
theorem ed_var {i : Nat} (h : δ[i]? = some (some (.val d))) : ED ρ K (tVar i) δ d := .mk fun G0 H0 G H σ m Q w hm q => by
  obtain ⟨v, h1, h2⟩ := w.sl i _ h
  exact ⟨v, h1, q d v G H m rfl w (Gd.refl w.gd.sub) (Nat.le_refl _) h2⟩
theorem ed_c {v : V} (h : ∀ G, At K G v d) : ED ρ K (tC v) δ d := .mk fun G0 H0 G H σ m Q w hm q => q d v G H m rfl w (Gd.refl w.gd.sub) (Nat.le_refl _) (h G)
theorem ed_int {i : Int} : ED ρ K (tC (.int i)) δ (.int i) := ed_c fun _ => .int i
theorem ed_str {i : Str} : ED ρ K (tC (.str i)) δ (.str i) := ed_c fun _ => .str i
theorem ed_bl {i : Bool} : ED ρ K (tC (.bl i)) δ (.bl i) := ed_c fun _ => .bl i
theorem ed_non : ED ρ K (tC .non) δ .non := ed_c fun _ => .non
theorem ed_opq {v : V} : ED ρ K (tC v) δ (.opq v) := ed_c fun _ => .opq v
theorem ej_op (ha : EJ ρ K ta δ k1 P1) (hb : ∀ a, P1 a → EJ ρ K tb δ k2 P2) (hr : ∀ a b, P1 a → P2 b → ∃ c, P c ∧ RJ K r a b c) : EJ ρ K (tOp r ta tb) δ (k1 + k2) P := .mk fun G0 H0 G H σ m Q w hm q =>
  (ha).run G0 H0 G H σ m _ w (by omega) fun x vx G1 H1 m1 px w1 g1 l1 ax => (hb x px).run G0 H0 G1 H1 σ m1 _ w1 (by omega) fun y vy G2 H2 m2 py w2 g2 l2 ay => by
    obtain ⟨c, pc, rj⟩ := hr x y px py
    refine rj.run vx vy G2 H2 Q (ax.mono g2.gg) ay w2.gd.sub fun v G3 H3 g3 av => ?_
    exact q c v G3 H3 m2 pc (w2.step g3.weak (w2.pot.keep g3)) (Gd.trans w2.pot (Gd.trans w1.pot g1 g2) g3.weak) (by omega) av
theorem ed_op (ha : ED ρ K ta δ a) (hb : ED ρ K tb δ b) (hr : RJ K r a b c) : ED ρ K (tOp r ta tb) δ c :=
  ej_op ha (fun _ _ => hb) fun x y ex ey => ⟨c, rfl, by subst ex ey; exact hr⟩
theorem ej_un {r : V → Hp → VK → Prop} (ha : EJ ρ K ta δ k P1) (hr : ∀ a, P1 a → ∃ c, P c ∧ UJ K r a c) : EJ ρ K (tUn r ta) δ k P := .mk fun G0 H0 G H σ m Q w hm q =>
  (ha).run G0 H0 G H σ m _ w (by omega) fun x vx G1 H1 m1 px w1 g1 l1 ax => by
    obtain ⟨c, pc, rj⟩ := hr x px
    refine rj.run vx G1 H1 Q ax w1.gd.sub fun v G3 H3 g3 av => ?_
    exact q c v G3 H3 m1 pc (w1.step g3.weak (w1.pot.keep g3)) (Gd.trans w1.pot g1 g3.weak) (by omega) av
theorem ed_un {r : V → Hp → VK → Prop} (ha : ED ρ K ta δ a) (hr : UJ K r a c) : ED ρ K (tUn r ta) δ c := ej_un ha fun x e => ⟨c, rfl, by subst e; exact hr⟩
/-! arguments -/
theorem ea_nil : EA ρ K tNil δ 0 (· = []) := .mk fun G0 H0 G H σ m Q w hm q => q [] [] G H m rfl w (Gd.refl w.gd.sub) (Nat.le_refl _) .nil
theorem ea_cons {PA : List D → Prop} {PR : List D → Prop} (ha : EJ ρ K ta δ k1 P1) (hr : ∀ a, P1 a → EA ρ K tr δ k2 PR) (h : ∀ a r, P1 a → PR r → PA (a :: r)) : EA ρ K (tCons ta tr) δ (k1 + k2) PA := .mk fun G0 H0 G H σ m Q w hm q =>
  (ha).run G0 H0 G H σ m _ w (by omega) fun x vx G1 H1 m1 px w1 g1 l1 ax => (hr x px).run G0 H0 G1 H1 σ m1 _ w1 (by omega) fun y vy G2 H2 m2 py w2 g2 l2 ay =>
    q (x :: y) (vx :: vy) G2 H2 m2 (h x y px py) w2 (Gd.trans w1.pot g1 g2) (by omega) (.cons (ax.mono g2.gg) ay)
theorem eda_nil : EDA ρ K tNil δ [] := ea_nil
theorem eda_cons {ds : List D} (ha : ED ρ K ta δ a) (hr : EDA ρ K tr δ ds) : EDA ρ K (tCons ta tr) δ (a :: ds) := ea_cons ha (fun _ _ => hr) fun x y e f => by subst e f; rfl
/-! displays -/
theorem ej_tup {PA : List D → Prop} (h : EA ρ K t δ k PA) (hl : ∀ ds, PA ds → ds.length ≤ 1000000) (hp : ∀ ds, PA ds → P (.tup ds)) : EJ ρ K (tTup t) δ k P := .mk fun G0 H0 G H σ m Q w hm q =>
  (h).run G0 H0 G H σ m _ w hm fun ds vs G1 H1 m1 px w1 g1 l1 ax => ⟨by rw [ax.len]; exact Nat.le_trans (hl _ px) (by decide), fun p hp' => by
    have g3 := Gd.alloc (o := HO.tup vs) w1.gd.sub hp'
    exact q (.tup ds) (.ref p) _ _ m1 (hp _ px) (w1.step g3.weak (w1.pot.keep g3)) (Gd.trans w1.pot g1 g3.weak) l1 (.tup (.inl (.inl upd_same)) (ax.mono g3.gg))⟩
theorem ej_lst {PA : List D → Prop} (h : EA ρ K t δ k PA) (hl : ∀ ds, PA ds → ds.length ≤ 1000000) (hp : ∀ ds, PA ds → P (.lst ds)) : EJ ρ K (tLst t) δ k P := .mk fun G0 H0 G H σ m Q w hm q =>
  (h).run G0 H0 G H σ m _ w hm fun ds vs G1 H1 m1 px w1 g1 l1 ax => ⟨by rw [ax.len]; exact Nat.le_trans (hl _ px) (by decide), fun p hp' => by
    have g3 := Gd.alloc (o := HO.lst vs) w1.gd.sub hp'
    exact q (.lst ds) (.ref p) _ _ m1 (hp _ px) (w1.step g3.weak (w1.pot.keep g3)) (Gd.trans w1.pot g1 g3.weak) l1 (.lst upd_same (ax.mono g3.gg))⟩
theorem ed_tup {ds : List D} (h : EDA ρ K t δ ds) (hl : ds.length ≤ 1000000) : ED ρ K (tTup t) δ (.tup ds) := ej_tup h (fun x e => by subst e; exact hl) fun x e => by subst e; rfl
theorem ed_lst {ds : List D} (h : EDA ρ K t δ ds) (hl : ds.length ≤ 1000000) : ED ρ K (tLst t) δ (.lst ds) := ej_lst h (fun x e => by subst e; exact hl) fun x e => by subst e; rfl
/-! calls of built-ins -/
theorem ej_cb {r : List V → Hp → VK → Prop} {PA : List D → Prop} (h : EA ρ K t δ k PA) (hr : ∀ ds, PA ds → ∃ c, P c ∧ CJ K r ds c) : EJ ρ K (tCB r t) δ k P := .mk fun G0 H0 G H σ m Q w hm q =>
  (h).run G0 H0 G H σ m _ w hm fun ds vs G1 H1 m1 px w1 g1 l1 ax => by
    obtain ⟨c, pc, rj⟩ := hr ds px
    refine rj.run vs G1 H1 Q ax w1.gd.sub fun v G3 H3 g3 av => ?_
    exact q c v G3 H3 m1 pc (w1.step g3.weak (w1.pot.keep g3)) (Gd.trans w1.pot g1 g3.weak) (by omega) av
theorem ed_cb {r : List V → Hp → VK → Prop} (h : EDA ρ K t δ as) (hr : CJ K r as c) : ED ρ K (tCB r t) δ c := ej_cb h fun x e => ⟨c, rfl, by subst e; exact hr⟩
/-! tests -/
theorem et_test {PB : Bool → Prop} (h : EJ ρ K te δ k (fun d => ∃ b, d = .bl b ∧ PB b)) : ET ρ K (tTest te) δ k PB := .mk fun G0 H0 G H σ m Q w hm q =>
  (h).run G0 H0 G H σ m _ w hm fun d v G1 H1 m1 px w1 g1 l1 ax => by
    obtain ⟨b, rfl, pb⟩ := px
    cases ax
    exact ⟨b, rfl, q b G1 H1 m1 pb w1 g1 l1⟩
theorem eb_test {x : Bool} (h : ED ρ K te δ (.bl x)) : EB ρ K (tTest te) δ x := et_test (h.mono (Nat.le_refl _) fun d e => ⟨x, e, rfl⟩)
theorem eb_B {x : Bool} (h : ED ρ K te δ (.bl x)) : EB ρ K (tB te) δ x := eb_test h
theorem et_and {PA PB PC : Bool → Prop} (h1 : ET ρ K tt δ k1 PA) (h2 : PA true → ET ρ K tu δ k2 PB) (hf : PA false → PC false) (ht : ∀ b, PA true → PB b → PC b) : ET ρ K (tAnd tt tu) δ (k1 + k2) PC := .mk fun G0 H0 G H σ m Q w hm q =>
  (h1).run G0 H0 G H σ m _ w (by omega) fun b G1 H1 m1 px w1 g1 l1 => by
    cases b with
    | false => exact iteF (q false G1 H1 m1 (hf px) w1 g1 (by omega))
    | true => exact iteT ((h2 px).run G0 H0 G1 H1 σ m1 Q w1 (by omega) fun b G2 H2 m2 pb w2 g2 l2 => q b G2 H2 m2 (ht b px pb) w2 (Gd.trans w1.pot g1 g2) (by omega))
theorem et_or {PA PB PC : Bool → Prop} (h1 : ET ρ K tt δ k1 PA) (h2 : PA false → ET ρ K tu δ k2 PB) (hf : PA true → PC true) (ht : ∀ b, PA false → PB b → PC b) : ET ρ K (tOr tt tu) δ (k1 + k2) PC := .mk fun G0 H0 G H σ m Q w hm q =>
  (h1).run G0 H0 G H σ m _ w (by omega) fun b G1 H1 m1 px w1 g1 l1 => by
    cases b with
    | true => exact iteT (q true G1 H1 m1 (hf px) w1 g1 (by omega))
    | false => exact iteF ((h2 px).run G0 H0 G1 H1 σ m1 Q w1 (by omega) fun b G2 H2 m2 pb w2 g2 l2 => q b G2 H2 m2 (ht b px pb) w2 (Gd.trans w1.pot g1 g2) (by omega))
theorem et_not {PA PB : Bool → Prop} (h : ET ρ K tt δ k PA) (hp : ∀ b, PA b → PB (!b)) : ET ρ K (tNot tt) δ k PB := .mk fun G0 H0 G H σ m Q w hm q =>
  (h).run G0 H0 G H σ m _ w hm fun b G1 H1 m1 px w1 g1 l1 => q (!b) G1 H1 m1 (hp b px) w1 g1 l1
theorem eb_and {x y : Bool} (h1 : EB ρ K tt δ x) (h2 : x = true → EB ρ K tu δ y) : EB ρ K (tAnd tt tu) δ (x && y) :=
  et_and h1 (fun e => h2 e.symm) (fun e => by subst e; rfl) fun b e e2 => by subst e e2; rfl
theorem eb_or {x y : Bool} (h1 : EB ρ K tt δ x) (h2 : x = false → EB ρ K tu δ y) : EB ρ K (tOr tt tu) δ (x || y) :=
  et_or h1 (fun e => h2 e.symm) (fun e => by subst e; rfl) fun b e e2 => by subst e e2; rfl
theorem eb_not {x : Bool} (h : EB ρ K tt δ x) : EB ρ K (tNot tt) δ (!x) := et_not h fun b e => by subst e; rfl
theorem ej_if {PT : Bool → Prop} (h : ET ρ K tt δ k1 PT) (ha : PT true → EJ ρ K ta δ k2 P) (hb : PT false → EJ ρ K tb δ k3 P) : EJ ρ K (tIf tt ta tb) δ (k1 + (k2 + k3)) P := .mk fun G0 H0 G H σ m Q w hm q =>
  (h).run G0 H0 G H σ m _ w (by omega) fun b G1 H1 m1 px w1 g1 l1 => by
    cases b with
    | true => exact iteT ((ha px).run G0 H0 G1 H1 σ m1 Q w1 (by omega) fun d v G2 H2 m2 pb w2 g2 l2 => q d v G2 H2 m2 pb w2 (Gd.trans w1.pot g1 g2) (by omega))
    | false => exact iteF ((hb px).run G0 H0 G1 H1 σ m1 Q w1 (by omega) fun d v G2 H2 m2 pb w2 g2 l2 => q d v G2 H2 m2 pb w2 (Gd.trans w1.pot g1 g2) (by omega))
theorem ed_if {x : Bool} (h : EB ρ K tt δ x) (ha : x = true → ED ρ K ta δ a) (hb : x = false → ED ρ K tb δ b) : ED ρ K (tIf tt ta tb) δ (bif x then a else b) :=
  ej_if h (fun e => (ha e.symm).mono (Nat.le_refl _) fun d e2 => by subst e e2; rfl) (fun e => (hb e.symm).mono (Nat.le_refl _) fun d e2 => by subst e e2; rfl)
theorem ej_andV {PB PC : Bool → Prop} (h1 : EJ ρ K ta δ k1 (fun d => ∃ b, d = .bl b ∧ PB b)) (h2 : PB true → EJ ρ K tb δ k2 P) (hf : PB false → P (.bl false)) : EJ ρ K (tAndV ta tb) δ (k1 + k2) P := .mk fun G0 H0 G H σ m Q w hm q =>
  (h1).run G0 H0 G H σ m _ w (by omega) fun d v G1 H1 m1 px w1 g1 l1 ax => by
    obtain ⟨b, rfl, pb⟩ := px
    cases ax
    refine ⟨b, rfl, ?_⟩
    cases b with
    | false => exact iteF (q _ _ G1 H1 m1 (hf pb) w1 g1 (by omega) (.bl false))
    | true => exact iteT ((h2 pb).run G0 H0 G1 H1 σ m1 Q w1 (by omega) fun d v G2 H2 m2 pb w2 g2 l2 => q d v G2 H2 m2 pb w2 (Gd.trans w1.pot g1 g2) (by omega))
theorem ed_andV {x : Bool} {y : Bool} (h1 : ED ρ K ta δ (.bl x)) (h2 : x = true → ED ρ K tb δ (.bl y)) : ED ρ K (tAndV ta tb) δ (.bl (x && y)) :=
  ej_andV (PB := (· = x)) (PC := fun _ => True) (h1.mono (Nat.le_refl _) fun d e => ⟨x, e, rfl⟩) (fun e => (h2 e.symm).mono (Nat.le_refl _) fun d e2 => by subst e e2; rfl) fun e => by subst e; rfl
theorem ej_orV {PB PC : Bool → Prop} (h1 : EJ ρ K ta δ k1 (fun d => ∃ b, d = .bl b ∧ PB b)) (h2 : PB false → EJ ρ K tb δ k2 P) (hf : PB true → P (.bl true)) : EJ ρ K (tOrV ta tb) δ (k1 + k2) P := .mk fun G0 H0 G H σ m Q w hm q =>
  (h1).run G0 H0 G H σ m _ w (by omega) fun d v G1 H1 m1 px w1 g1 l1 ax => by
    obtain ⟨b, rfl, pb⟩ := px
    cases ax
    refine ⟨b, rfl, ?_⟩
    cases b with
    | true => exact iteT (q _ _ G1 H1 m1 (hf pb) w1 g1 (by omega) (.bl true))
    | false => exact iteF ((h2 pb).run G0 H0 G1 H1 σ m1 Q w1 (by omega) fun d v G2 H2 m2 pb w2 g2 l2 => q d v G2 H2 m2 pb w2 (Gd.trans w1.pot g1 g2) (by omega))
theorem ed_orV {x : Bool} {y : Bool} (h1 : ED ρ K ta δ (.bl x)) (h2 : x = false → ED ρ K tb δ (.bl y)) : ED ρ K (tOrV ta tb) δ (.bl (x || y)) :=
  ej_orV (PB := (· = x)) (PC := fun _ => True) (h1.mono (Nat.le_refl _) fun d e => ⟨x, e, rfl⟩) (fun e => (h2 e.symm).mono (Nat.le_refl _) fun d e2 => by subst e e2; rfl) fun e => by subst e; rfl
theorem ed_notV {x : Bool} (h : ED ρ K ta δ (.bl x)) : ED ρ K (tNotV ta) δ (.bl (!x)) := .mk fun G0 H0 G H σ m Q w hm q =>
  (h).run G0 H0 G H σ m _ w hm fun d v G1 H1 m1 px w1 g1 l1 ax => by
    subst px
    cases ax
    exact ⟨x, rfl, q _ _ G1 H1 m1 rfl w1 g1 l1 (.bl _)⟩
end
end DN

/-! ground 2: statements, loops, comprehensions, promises -/
namespace DN
open PySem PySem.Spec PyProof.Rows L2

inductive Out where
  | nx (δ : Dl) | rt (d : D) | bk (δ : Dl) | ct (δ : Dl) | ex (C : Addr) (d : D)

def EndsOk (ρ : Option Addr) (K : PySem.W.Frag) (G0 H0 : Hp) (D : Ends) (E : XK) (m : Nat) : Out → Prop
  | .nx δ' => ∀ G' H' σ' m', Wf ρ K G0 H0 G' H' σ' δ' m' → m' ≤ m → D.nx σ' H'
  | .bk δ' => ∀ G' H' σ' m', Wf ρ K G0 H0 G' H' σ' δ' m' → m' ≤ m → D.bk σ' H'
  | .ct δ' => ∀ G' H' σ' m', Wf ρ K G0 H0 G' H' σ' δ' m' → m' ≤ m → D.ct σ' H'
  | .rt d => ∀ v G' H' m', Gd ρ G0 H0 G' H' → PotS ρ m' H' → m' ≤ m → At K G' v d → D.rt v H'
  | .ex C d => ∀ p v G' H' m', Gd ρ G0 H0 G' H' → PotS ρ m' H' → m' ≤ m → H' p = some (.xd [("value", v)]) → At K G' v d → E (.ref C) (some p) H'
theorem EndsOk.le {ρ : Option Addr} {K : PySem.W.Frag} {G0 H0 : Hp} {D : Ends} {E : XK} {m n : Nat} (h : m ≤ n) : ∀ {o : Out}, EndsOk ρ K G0 H0 D E n o → EndsOk ρ K G0 H0 D E m o
  | .nx _, q => fun G' H' σ' m' w l => q G' H' σ' m' w (by omega)
  | .bk _, q => fun G' H' σ' m' w l => q G' H' σ' m' w (by omega)
  | .ct _, q => fun G' H' σ' m' w l => q G' H' σ' m' w (by omega)
  | .rt _, q => fun v G' H' m' g p l => q v G' H' m' g p (by omega)
  | .ex _ _, q => fun p v G' H' m' g pp l => q p v G' H' m' g pp (by omega)

section
variable (ρ : Option Addr) (K : PySem.W.Frag) (E : XK)
structure SJ (ts : TS) (δ : Dl) (k : Nat) (P : Out → Prop)  : Prop where
  run : ∀ (G0 H0 G H : Hp) (σ : L2.St) (m : Nat) (D : Ends), Wf ρ K G0 H0 G H σ δ m → m + k ≤ Mx →
  (∀ o, P o → EndsOk ρ K G0 H0 D E (m + k) o) → ts D σ H
/-- a target takes a datum -/
structure GJ (g : TG) (L : List Nat) (d : D) (δ δ' : Dl)  : Prop where
  run : ∀ (G0 H0 G H : Hp) (σ : L2.St) (v : V) (m : Nat) (Q : L2.St → Hp → Prop), Wf ρ K G0 H0 G H σ δ m → At K G v d →
  (∀ σ', Wf ρ K G0 H0 G H σ' δ' m → (∀ vs : List Nat, (∀ i ∈ L, i ∈ vs) → wipe σ' vs = wipe σ vs) → Q σ' H) → g v σ H Q
structure GsJ (g : TGs) (L : List Nat) (ds : List D) (δ δ' : Dl)  : Prop where
  run : ∀ (G0 H0 G H : Hp) (σ : L2.St) (vs : List V) (m : Nat) (Q : L2.St → Hp → Prop), Wf ρ K G0 H0 G H σ δ m → AtL K G vs ds →
  (∀ σ', Wf ρ K G0 H0 G H σ' δ' m → (∀ vs : List Nat, (∀ i ∈ L, i ∈ vs) → wipe σ' vs = wipe σ vs) → Q σ' H) → g vs σ H Q
/-- what is walked gives these data, one after the other -/
structure IJ (wi : TI) (δ : Dl) (k : Nat) (P : List D → Prop)  : Prop where
  run : ∀ (G0 H0 G H : Hp) (σ : L2.St) (m : Nat) (R : It → Hp → Prop), Wf ρ K G0 H0 G H σ δ m → m + k ≤ Mx →
  (∀ (ds : List D) (J : It) (G' H' : Hp) (Gp : Hp → Prop) (Y : Nat → Hp → V → Hp → Prop) (m' : Nat), P ds → Wf ρ K G0 H0 G' H' σ δ m' → Gd ρ G H G' H' → m' ≤ m + k → L2.Walk J ds.length Gp Y → (∀ H2, Same G' H2 → Gp H2) →
    (∀ i x H1 H2 Gx, i < ds.length → Same G' Gx → Same Gx H1 → Y i H1 x H2 → ∃ G2 d, ds[i]? = some d ∧ Gd none Gx H1 G2 H2 ∧ At K G2 x d) → R J H') → wi σ H R
/-- te gives a new list, of the def's own -/
structure EN (te : TE) (δ : Dl) (k : Nat) (P : D → Prop)  : Prop where
  run : ∀ (G0 H0 G H : Hp) (σ : L2.St) (m : Nat) (Q : VK), Wf ρ K G0 H0 G H σ δ m → m + k ≤ Mx →
  (∀ d p o G' H' m', P d → Wf ρ K G0 H0 G' H' σ δ m' → Gd ρ G H G' H' → m' ≤ m + k → H p = none → H' p = some o → OAt K G' o d → G' p = none → Q (.ref p) H') → te σ H Q
end

section
variable {ρ : Option Addr} {K : PySem.W.Frag} {E : XK} {δ δ' : Dl} {te ta tb tc : TE} {t u ts : TS} {tt tu : TT} {k k1 k2 k3 : Nat} {P P1 P2 : D → Prop} {PO PO' : Out → Prop} {a b c d : D} {i : Nat}

/-! ### slots set -/
theorem Wf.set {G0 H0 G H : Hp} {σ : L2.St} {m : Nat} {v : V} {dd : D} (w : Wf ρ K G0 H0 G H σ δ m) (h : At K G v dd) : Wf ρ K G0 H0 G H (σ.set i (some v)) (δ.set i (some (.val dd))) m where
  len := by rw [List.length_set, List.length_set]; exact w.len
  gd := w.gd
  pot := w.pot
  pot0 := w.pot0
  sl := fun j s e => by
    by_cases hj : i = j
    · subst hj
      by_cases hl : i < δ.length
      · rw [List.getElem?_set_self hl] at e
        cases e
        exact ⟨v, List.getElem?_set_self (by rw [w.len]; exact hl), h⟩
      · rw [List.getElem?_eq_none (by rw [List.length_set]; omega)] at e
        cases e
    · rw [List.getElem?_set_ne hj] at e
      obtain ⟨x, h1, h2⟩ := w.sl j s e
      exact ⟨x, by rw [List.getElem?_set_ne hj]; exact h1, h2⟩
  ap := fun j l d e n h1 h2 => by
    have nj : ∀ {q : Nat} {x : D}, (δ.set i (some (.val dd)))[q]? = some (some (.own x)) → i ≠ q ∧ δ[q]? = some (some (.own x)) := by
      intro q x e
      by_cases hj : i = q
      · subst hj
        by_cases hl : i < δ.length
        · rw [List.getElem?_set_self hl] at e
          cases e
        · rw [List.getElem?_eq_none (by rw [List.length_set]; omega)] at e
          cases e
      · rw [List.getElem?_set_ne hj] at e
        exact ⟨hj, e⟩
    obtain ⟨a1, a2⟩ := nj h1
    obtain ⟨b1, b2⟩ := nj h2
    rw [List.getElem?_set_ne a1, List.getElem?_set_ne b1]
    exact w.ap j l d e n a2 b2

theorem Wf.fresh {G0 H0 G H : Hp} {σ : L2.St} {m : Nat} {p : Addr} (w : Wf ρ K G0 H0 G H σ δ m) (h : H p = none) : H0 p = none := by
  cases z : H0 p with
  | none => rfl
  | some o =>
    by_cases y : ρ = some p
    · obtain ⟨_, _, _, hp, _⟩ : Pot m H p := by have := w.pot; rw [y] at this; exact this
      rw [h] at hp; cases hp
    · rw [w.gd.keep p o y z] at h; cases h
theorem Wf.notOwn {G0 H0 G H : Hp} {σ : L2.St} {m : Nat} {p : Addr} (w : Wf ρ K G0 H0 G H σ δ m) (h : H p = none) {j : Nat} {d : D} (e : δ[j]? = some (some (.own d))) : σ[j]? ≠ some (some (.ref p)) := by
  obtain ⟨v, h1, q, o, rfl, hq, _⟩ := w.sl j _ e
  intro z
  rw [h1] at z
  cases z
  rw [h] at hq; cases hq
/-- a slot takes an object of the def's own -/
theorem Wf.setOwn {G0 H0 G H : Hp} {σ : L2.St} {m : Nat} {p : Addr} {o : HO} {dd : D} (w : Wf ρ K G0 H0 G H σ δ m) (h0 : H0 p = none) (hp : H p = some o) (ha : OAt K G o dd) (hg : G p = none)
    (hn : ∀ j e, i ≠ j → δ[j]? = some (some (.own e)) → σ[j]? ≠ some (some (.ref p))) : Wf ρ K G0 H0 G H (σ.set i (some (.ref p))) (δ.set i (some (.own dd))) m where
  len := by rw [List.length_set, List.length_set]; exact w.len
  gd := w.gd
  pot := w.pot
  pot0 := w.pot0
  sl := fun j s e => by
    by_cases hj : i = j
    · subst hj
      by_cases hl : i < δ.length
      · rw [List.getElem?_set_self hl] at e
        cases e
        exact ⟨.ref p, List.getElem?_set_self (by rw [w.len]; exact hl), p, o, rfl, hp, ha, hg, h0⟩
      · rw [List.getElem?_eq_none (by rw [List.length_set]; omega)] at e
        cases e
    · rw [List.getElem?_set_ne hj] at e
      obtain ⟨x, h1, h2⟩ := w.sl j s e
      exact ⟨x, by rw [List.getElem?_set_ne hj]; exact h1, h2⟩
  ap := fun j l d e n h1 h2 => by
    have lt : ∀ {q : Nat} {x : D}, (δ.set i (some (.own dd)))[q]? = some (some (.own x)) → (i = q ∧ i < σ.length) ∨ (i ≠ q ∧ δ[q]? = some (some (.own x))) := by
      intro q x e
      by_cases hj : i = q
      · subst hj
        by_cases hl : i < δ.length
        · exact .inl ⟨rfl, by rw [w.len]; exact hl⟩
        · rw [List.getElem?_eq_none (by rw [List.length_set]; omega)] at e
          cases e
      · rw [List.getElem?_set_ne hj] at e
        exact .inr ⟨hj, e⟩
    rcases lt h1 with ⟨e1, l1⟩ | ⟨n1, e1⟩
    · rcases lt h2 with ⟨e2, _⟩ | ⟨n2, e2⟩
      · exact absurd (e1.symm.trans e2) n
      · subst e1
        rw [List.getElem?_set_self l1, List.getElem?_set_ne n2]
        exact fun z => hn l e n2 e2 z.symm
    · rcases lt h2 with ⟨e2, l2⟩ | ⟨n2, e2⟩
      · subst e2
        rw [List.getElem?_set_self l2, List.getElem?_set_ne n1]
        exact hn j d n1 e1
      · rw [List.getElem?_set_ne n1, List.getElem?_set_ne n2]
        exact w.ap j l d e n e1 e2
/-- the object in a slot of the def's own changes -/
theorem Wf.chg {G0 H0 G H : Hp} {σ : L2.St} {m : Nat} {p : Addr} {o : HO} {dd d0 : D} (w : Wf ρ K G0 H0 G H σ δ m) (hi : δ[i]? = some (some (.own d0))) (hs : σ[i]? = some (some (.ref p))) (ha : OAt K G o dd) : Wf ρ K G0 H0 G (upd H p o) σ (δ.set i (some (.own dd))) m := by
  obtain ⟨v, e1, q, o', rfl, hq, hoa, hgq, h0⟩ := w.sl i _ hi
  rw [hs] at e1
  cases e1
  have nr : ρ ≠ some p := fun z => (w.pot0 p z).1 h0
  have gk : Same G (upd H p o) := fun b u e => by
    rw [upd_ne (ne_of_none e hgq)]
    exact w.gd.sub b u e
  refine ⟨by rw [List.length_set]; exact w.len, ⟨fun b u n e => ?_, w.gd.gg, gk, w.gd.new⟩, ?_, w.pot0, fun j s e => ?_, fun j l d e n h1 h2 => ?_⟩
  · rw [upd_ne (ne_of_none e h0)]
    exact w.gd.keep b u n e
  · cases ρ with
    | none => trivial
    | some a =>
      obtain ⟨x, y, z, hp, B⟩ := w.pot
      exact ⟨x, y, z, by rw [upd_ne (fun e => nr (congrArg some e))]; exact hp, B⟩
  · by_cases hj : i = j
    · subst hj
      have hl : i < δ.length := by
        cases Nat.lt_or_ge i δ.length with
        | inl h => exact h
        | inr h => rw [List.getElem?_eq_none h] at hi; cases hi
      rw [List.getElem?_set_self hl] at e
      cases e
      exact ⟨.ref p, hs, p, o, rfl, upd_same, ha, hgq, h0⟩
    · rw [List.getElem?_set_ne hj] at e
      obtain ⟨x, h1, h2⟩ := w.sl j s e
      refine ⟨x, h1, ?_⟩
      cases s with
      | val d => exact h2
      | own d =>
        obtain ⟨r, o2, rfl, hr, h3⟩ := h2
        have np : r ≠ p := fun z => by
          subst z
          exact w.ap i j d0 d hj hi e (hs.trans h1.symm)
        exact ⟨r, o2, rfl, by rw [upd_ne np]; exact hr, h3⟩
  · have lt : ∀ {q : Nat} {x : D}, (δ.set i (some (.own dd)))[q]? = some (some (.own x)) → ∃ y, δ[q]? = some (some (.own y)) := by
      intro q x e
      by_cases hj : i = q
      · subst hj; exact ⟨d0, hi⟩
      · rw [List.getElem?_set_ne hj] at e
        exact ⟨x, e⟩
    obtain ⟨y, e1⟩ := lt h1
    obtain ⟨z, e2⟩ := lt h2
    exact w.ap j l y z n e1 e2
/-- the object in a slot of the def's own is let stand as it is from now on -/
theorem Wf.froze {G0 H0 G H : Hp} {σ : L2.St} {m : Nat} {d0 : D} (w : Wf ρ K G0 H0 G H σ δ m) (hi : δ[i]? = some (some (.own d0))) :
    ∃ p o, σ[i]? = some (some (.ref p)) ∧ H p = some o ∧ G p = none ∧ OAt K G o d0 ∧ Wf ρ K G0 H0 (upd G p o) H σ (δ.set i (some (.val d0))) m := by
  obtain ⟨v, hs, p, o, rfl, hq, hoa, hgq, h0⟩ := w.sl i _ hi
  have gg : Same G (upd G p o) := same_new hgq
  refine ⟨p, o, hs, hq, hgq, hoa, by rw [List.length_set]; exact w.len, ⟨w.gd.keep, w.gd.gg.trans gg, fun b u e => ?_, fun b e => ?_⟩, w.pot, w.pot0, fun j s e => ?_, fun j l d e n h1 h2 => ?_⟩
  · by_cases z : b = p
    · subst z; rw [upd_same] at e; rw [hq]; exact e
    · rw [upd_ne z] at e; exact w.gd.sub b u e
  · by_cases z : b = p
    · subst z; exact .inr h0
    · rw [upd_ne z] at e; exact w.gd.new b e
  · by_cases hj : i = j
    · subst hj
      have hl : i < δ.length := by
        cases Nat.lt_or_ge i δ.length with
        | inl h => exact h
        | inr h => rw [List.getElem?_eq_none h] at hi; cases hi
      rw [List.getElem?_set_self hl] at e
      cases e
      exact ⟨.ref p, hs, OAt.at (hoa.mono gg) upd_same⟩
    · rw [List.getElem?_set_ne hj] at e
      obtain ⟨x, h1, h2⟩ := w.sl j s e
      refine ⟨x, h1, ?_⟩
      cases s with
      | val d => exact At.mono gg h2
      | own d =>
        obtain ⟨r, o2, rfl, hr, ha, hg, hz⟩ := h2
        have np : r ≠ p := fun z => by
          subst z
          exact w.ap i j d0 d hj hi e (hs.trans h1.symm)
        exact ⟨r, o2, rfl, hr, ha.mono gg, by rw [upd_ne np]; exact hg, hz⟩
  · have lt : ∀ {q : Nat} {x : D}, (δ.set i (some (.val d0)))[q]? = some (some (.own x)) → δ[q]? = some (some (.own x)) := by
      intro q x e
      by_cases hj : i = q
      · subst hj
        have hl : i < δ.length := by
          cases Nat.lt_or_ge i δ.length with
          | inl h => exact h
          | inr h => rw [List.getElem?_eq_none h] at hi; cases hi
        rw [List.getElem?_set_self hl] at e
        cases e
      · rw [List.getElem?_set_ne hj] at e
        exact e
    exact w.ap j l d e n (lt h1) (lt h2)

/-! ### statements -/
theorem SJ.mono {k' : Nat} (h : SJ ρ K E ts δ k PO) (hk : k ≤ k') (hp : ∀ o, PO o → PO' o) : SJ ρ K E ts δ k' PO' := .mk fun G0 H0 G H σ m D w hm q =>
  (h).run G0 H0 G H σ m D w (by omega) fun o p => (q o (hp o p)).le (by omega)
theorem sj_next : SJ ρ K E tNext δ 0 (· = .nx δ) := .mk fun G0 H0 G H σ m D w hm q => q _ rfl G H σ m w (Nat.le_refl _)
theorem sj_nextP (h : PO (.nx δ)) : SJ ρ K E tNext δ 0 PO := sj_next.mono (Nat.le_refl _) fun o e => by subst e; exact h
theorem sj_seq (h : SJ ρ K E t δ k1 PO) (hn : ∀ δ', PO (.nx δ') → SJ ρ K E u δ' k2 PO') (ho : ∀ o, PO o → (∀ δ', o ≠ .nx δ') → PO' o) : SJ ρ K E (tSeq t u) δ (k1 + k2) PO' := .mk fun G0 H0 G H σ m D w hm q =>
  (h).run G0 H0 G H σ m _ w (by omega) fun o p => by
    cases o with
    | nx δ' => exact fun G' H' σ' m' w' l => (hn δ' p).run G0 H0 G' H' σ' m' D w' (by omega) fun o p => (q o p).le (by omega)
    | rt d => exact EndsOk.le (o := .rt d) (by omega) (q _ (ho _ p (by simp)))
    | bk d => exact EndsOk.le (o := .bk d) (by omega) (q _ (ho _ p (by simp)))
    | ct d => exact EndsOk.le (o := .ct d) (by omega) (q _ (ho _ p (by simp)))
    | ex C d => exact EndsOk.le (o := .ex C d) (by omega) (q _ (ho _ p (by simp)))
/-- x = e; the rest -/
theorem sj_set (h : EJ ρ K te δ k1 P) (hn : ∀ d, P d → SJ ρ K E u (δ.set i (some (.val d))) k2 PO) : SJ ρ K E (tSeq (tAsg te (gName i)) u) δ (k1 + k2) PO := .mk fun G0 H0 G H σ m D w hm q =>
  (h).run G0 H0 G H σ m _ w (by omega) fun d v G' H' m' p w' g l x => (hn d p).run G0 H0 G' H' _ m' D (w'.set x) (by omega) fun o po => (q o po).le (by omega)
/-- x = e, where x is to grow; the rest -/
theorem sj_new (h : EN ρ K te δ k1 P) (hn : ∀ d, P d → SJ ρ K E u (δ.set i (some (.own d))) k2 PO) : SJ ρ K E (tSeq (tAsg te (gName i)) u) δ (k1 + k2) PO := .mk fun G0 H0 G H σ m D w hm q =>
  (h).run G0 H0 G H σ m _ w (by omega) fun d r o G' H' m' p w' g l hp ho ha hg => (hn d p).run G0 H0 G' H' _ m' D (w'.setOwn (w.fresh hp) ho ha hg fun j e _ hj => w.notOwn hp hj) (by omega) fun o po => (q o po).le (by omega)
theorem sj_frz (i : Nat) {d0 : D} (hi : δ[i]? = some (some (.own d0))) (h : SJ ρ K E ts (δ.set i (some (.val d0))) k PO) : SJ ρ K E ts δ k PO := .mk fun G0 H0 G H σ m D w hm q => by
  obtain ⟨p, o, _, _, _, _, w'⟩ := w.froze hi
  exact (h).run G0 H0 _ H σ m D w' hm q
theorem ej_frz (i : Nat) {d0 : D} (hi : δ[i]? = some (some (.own d0))) {Q : VK} {G0 H0 G H : Hp} {σ : L2.St} {m : Nat} (w : Wf ρ K G0 H0 G H σ δ m) (hm : m + k ≤ Mx) (h : EJ ρ K te (δ.set i (some (.val d0))) k P)
    (q : ∀ d v G' H' m', P d → Wf ρ K G0 H0 G' H' σ (δ.set i (some (.val d0))) m' → m' ≤ m + k → At K G' v d → Q v H') : te σ H Q := by
  obtain ⟨p, o, _, _, _, _, w'⟩ := w.froze hi
  exact (h).run G0 H0 _ H σ m Q w' hm fun d v G' H' m' p w' _ l x => q d v G' H' m' p w' l x
theorem sj_ret (h : EJ ρ K te δ k P) : SJ ρ K E (tRet te) δ k (fun o => ∃ d, P d ∧ o = .rt d) := .mk fun G0 H0 G H σ m D w hm q =>
  (h).run G0 H0 G H σ m _ w hm fun d v G' H' m' p w' g l x => q (.rt d) ⟨d, p, rfl⟩ v G' H' m' w'.gd w'.pot l x
theorem sj_retP (h : EJ ρ K te δ k P) (hp : ∀ d, P d → PO (.rt d)) : SJ ρ K E (tRet te) δ k PO := (sj_ret h).mono (Nat.le_refl _) fun o e => by
  obtain ⟨d, p, rfl⟩ := e
  exact hp d p
theorem sj_retN (h : PO (.rt .non)) : SJ ρ K E tRetN δ 0 PO := .mk fun G0 H0 G H σ m D w hm q => q (.rt .non) h .non G H m w.gd w.pot (Nat.le_refl _) .non
theorem sj_if {PT : Bool → Prop} (h : ET ρ K tt δ k1 PT) (ht : PT true → SJ ρ K E t δ k2 PO) (hf : PT false → SJ ρ K E u δ k3 PO) : SJ ρ K E (tIfS tt t u) δ (k1 + (k2 + k3)) PO := .mk fun G0 H0 G H σ m D w hm q =>
  (h).run G0 H0 G H σ m _ w (by omega) fun b G1 H1 m1 px w1 g1 l1 => by
    cases b with
    | true => exact iteT ((ht px).run G0 H0 G1 H1 σ m1 D w1 (by omega) fun o po => (q o po).le (by omega))
    | false => exact iteF ((hf px).run G0 H0 G1 H1 σ m1 D w1 (by omega) fun o po => (q o po).le (by omega))
theorem sj_ifs {PT : Bool → Prop} {r : TS} (h : ET ρ K tt δ k1 PT) (ht : PT true → SJ ρ K E (tSeq t r) δ k2 PO) (hf : PT false → SJ ρ K E (tSeq u r) δ k3 PO) : SJ ρ K E (tSeq (tIfS tt t u) r) δ (k1 + (k2 + k3)) PO :=
  sj_if (t := tSeq t r) (u := tSeq u r) h ht hf
theorem sj_nexts {r : TS} (h : SJ ρ K E r δ k PO) : SJ ρ K E (tSeq tNext r) δ k PO := h
theorem sj_rets {r : TS} (h : SJ ρ K E (tRet te) δ k PO) : SJ ρ K E (tSeq (tRet te) r) δ k PO := h
theorem sj_assoc {r : TS} (h : SJ ρ K E (tSeq t (tSeq u r)) δ k PO) : SJ ρ K E (tSeq (tSeq t u) r) δ k PO := h
theorem sj_drop (h : EJ ρ K te δ k1 P) (hn : SJ ρ K E u δ k2 PO) : SJ ρ K E (tSeq (tDrop te) u) δ (k1 + k2) PO := .mk fun G0 H0 G H σ m D w hm q =>
  (h).run G0 H0 G H σ m _ w (by omega) fun d v G' H' m' p w' g l x => (hn).run G0 H0 G' H' _ m' D w' (by omega) fun o po => (q o po).le (by omega)
/-- a last statement is one with nothing behind it -/
theorem sj_last (h : SJ ρ K E (tSeq ts tNext) δ k PO) : SJ ρ K E ts δ k PO := h

/-! ### targets -/
theorem wipe_set_mem {σ : L2.St} {i : Nat} {x : Option V} : ∀ {vs : List Nat}, i ∈ vs → wipe (σ.set i x) vs = wipe σ vs
  | v :: vs, h => by
    unfold wipe
    by_cases hi : i ∈ vs
    · rw [wipe_set_mem hi]
    · have e : i = v := by
        rcases List.mem_cons.mp h with z | z
        · exact z
        · exact absurd z hi
      subst e
      have key : ∀ (ws : List Nat), i ∉ ws → ∀ τ : L2.St, wipe (τ.set i x) ws = (wipe τ ws).set i x := by
        intro ws
        induction ws with
        | nil => intro _ τ; rfl
        | cons y ys ih =>
          intro hn τ
          unfold wipe
          rw [ih (fun z => hn (List.mem_cons_of_mem _ z)) τ, List.set_comm]
          exact fun z => hn (by rw [z]; exact List.mem_cons_self ..)
      rw [key vs hi, List.set_set]
theorem gj_name : GJ ρ K (gName i) [i] d δ (δ.set i (some (.val d))) := .mk fun G0 H0 G H σ v m Q w h q =>
  q _ (w.set h) fun vs hv => wipe_set_mem (hv i (List.mem_singleton.mpr rfl))
theorem gsj_nil : GsJ ρ K gNil [] [] δ δ := .mk fun G0 H0 G H σ vs m Q w h q => by
  cases h
  exact ⟨rfl, q σ w fun _ _ => rfl⟩
theorem gsj_cons {g : TG} {gs : TGs} {L1 L2 : List Nat} {δ1 δ2 : Dl} {ds : List D} (h1 : GJ ρ K g L1 d δ δ1) (h2 : GsJ ρ K gs L2 ds δ1 δ2) : GsJ ρ K (gCons g gs) (L1 ++ L2) (d :: ds) δ δ2 := .mk fun G0 H0 G H σ vs m Q w h q => by
  cases h with
  | cons a r =>
    refine ⟨_, _, rfl, (h1).run G0 H0 G H σ _ m _ w a fun σ1 w1 e1 => (h2).run G0 H0 G H σ1 _ m _ w1 r fun σ2 w2 e2 => q σ2 w2 fun vs hv => ?_⟩
    rw [e2 vs fun i hi => hv i (List.mem_append_right _ hi), e1 vs fun i hi => hv i (List.mem_append_left _ hi)]
theorem gj_tup {gs : TGs} {L : List Nat} {ds : List D} {n : Nat} (h : GsJ ρ K gs L ds δ δ') (hn : ds.length = n) : GJ ρ K (gTup K n gs) L (.tup ds) δ δ' := .mk fun G0 H0 G H σ v m Q w a q => by
  cases a with
  | tup hs hl => exact ⟨_, _, rfl, Same.sqT w.gd.sub hs, by rw [hl.len]; exact hn, (h).run G0 H0 G H σ _ m Q w hl q⟩
theorem sj_asg {g : TG} {L : List Nat} {δ' : D → Dl} (h : EJ ρ K te δ k1 P) (hg : ∀ d, P d → GJ ρ K g L d δ (δ' d)) (hn : ∀ d, P d → SJ ρ K E u (δ' d) k2 PO) : SJ ρ K E (tSeq (tAsg te g) u) δ (k1 + k2) PO := .mk fun G0 H0 G H σ m D w hm q =>
  (h).run G0 H0 G H σ m _ w (by omega) fun d v G' H' m' p w' _ l x => (hg d p).run G0 H0 G' H' σ v m' _ w' x fun σ2 w2 _ => (hn d p).run G0 H0 G' H' _ m' D w2 (by omega) fun o po => (q o po).le (by omega)
end
end DN

/-! ground 3: loops, comprehensions, promises -/
namespace DN
open PySem PySem.Spec PyProof.Rows L2
section
variable {ρ : Option Addr} {K : PySem.W.Frag} {E : XK} {δ δ' : Dl} {te ta tb tc : TE} {t u ts : TS} {tt tu : TT} {tA : TA} {tb' : TS} {k k1 k2 k3 : Nat} {P P1 P2 : D → Prop} {PO PO' : Out → Prop} {a b c d : D} {i : Nat}

/-! ### new objects -/
theorem EN.ej (h : EN ρ K te δ k P) : EJ ρ K te δ k P := .mk fun G0 H0 G H σ m Q w hm q =>
  (h).run G0 H0 G H σ m Q w hm fun d p o G' H' m' pd w' g l hp ho ha hg => by
    have gg : Same G' (upd G' p o) := same_new hg
    have g2 : Gd ρ G H (upd G' p o) H' := ⟨g.keep, g.gg.trans gg, fun b u e => by
        by_cases z : b = p
        · subst z; rw [upd_same] at e; rw [ho]; exact e
        · rw [upd_ne z] at e; exact g.sub b u e, fun b e => by
        by_cases z : b = p
        · subst z; exact .inr hp
        · rw [upd_ne z] at e; exact g.new b e⟩
    exact q d (.ref p) _ H' m' pd (w.step g2 w'.pot) g2 l (OAt.at (ha.mono gg) upd_same)
theorem EN.mono {k' : Nat} {P' : D → Prop} (h : EN ρ K te δ k P) (hk : k ≤ k') (hp : ∀ d, P d → P' d) : EN ρ K te δ k' P' := .mk fun G0 H0 G H σ m Q w hm q =>
  (h).run G0 H0 G H σ m Q w (by omega) fun d p o G' H' m' pd w' g l => q d p o G' H' m' (hp d pd) w' g (by omega)
/-- a new object p at the end of what went before -/
theorem en_fin {G0 H0 G H G1 H1 : Hp} {σ : L2.St} {m m1 : Nat} {Q : VK} {o : HO} {d : D} (w : Wf ρ K G0 H0 G H σ δ m) (w1 : Wf ρ K G0 H0 G1 H1 σ δ m1) (g1 : Gd ρ G H G1 H1) (ho : OAt K G1 o d)
    (q : ∀ p o G' H' m', Wf ρ K G0 H0 G' H' σ δ m' → Gd ρ G H G' H' → m' ≤ m1 → H p = none → H' p = some o → OAt K G' o d → G' p = none → Q (.ref p) H') : ∀ p, H1 p = none → Q (.ref p) (upd H1 p o) := fun p hp => by
  have g2 := Gd.alloc0 (o := o) w1.gd.sub hp
  have hp0 : H p = none := by
    cases z : H p with
    | none => rfl
    | some x =>
      by_cases y : ρ = some p
      · obtain ⟨_, _, _, hq, _⟩ : Pot m1 H1 p := by have := w1.pot; rw [y] at this; exact this
        rw [hp] at hq; cases hq
      · rw [g1.keep p x y z] at hp; cases hp
  exact q p o G1 _ m1 (w1.step g2.weak (w1.pot.keep g2)) (Gd.trans w1.pot g1 g2.weak) (Nat.le_refl _) hp0 upd_same ho (by
    cases z : G1 p with
    | none => rfl
    | some x => rw [w1.gd.sub p x z] at hp; cases hp)
theorem en_lst {PA : List D → Prop} (h : EA ρ K tA δ k PA) (hl : ∀ ds, PA ds → ds.length ≤ 1000000) (hp : ∀ ds, PA ds → P (.lst ds)) : EN ρ K (tLst tA) δ k P := .mk fun G0 H0 G H σ m Q w hm q =>
  (h).run G0 H0 G H σ m _ w hm fun ds vs G1 H1 m1 px w1 g1 l1 ax => ⟨by rw [ax.len]; exact Nat.le_trans (hl _ px) (by decide),
    en_fin w w1 g1 (.lst ax) fun p o G' H' m' w' g' l' => q (.lst ds) p o G' H' m' (hp _ px) w' g' (by omega)⟩
theorem en_nil : EN ρ K (tLst tNil) δ 0 (· = .lst []) := en_lst ea_nil (fun ds e => by subst e; exact Nat.zero_le _) fun ds e => by subst e; rfl
theorem en_dnil : EN ρ K tDNewK δ 0 (· = .dct []) := .mk fun G0 H0 G H σ m Q w hm q =>
  en_fin w w (Gd.refl w.gd.sub) (.dct .nil) fun p o G' H' m' w' g' l' => q (.dct []) p o G' H' m' rfl w' g' (by omega)

/-! ### loops -/
theorem ij_list {ds : List D} (h : ED ρ K te δ (.lst ds)) : IJ ρ K (iList K te) δ 0 (· = ds) := .mk fun G0 H0 G H σ m R w hm q =>
  (h).run G0 H0 G H σ m _ w hm fun d v G' H' m' pd w' g l x => by
    subst pd
    cases x with
    | @lst a xs _ ha hl =>
      have e := hl.len
      refine ⟨a, rfl, ⟨xs, .inl (.inl (w'.gd.sub _ _ ha))⟩, q ds (Itl K a) G' H' (fun H => SqL K H a xs) (YAt xs) m' rfl w' g l (by rw [← e]; exact walk_list) (fun H2 s => .inl (.inl (s _ _ ha))) ?_⟩
      intro i x H1 H2 Gx hi s1 s2 y
      obtain ⟨rfl, hx⟩ := y
      obtain ⟨d, hd, hat⟩ := AtL.getv (hl.mono s1) hx
      exact ⟨Gx, d, hd, Gd.refl s2, hat⟩
theorem ij_listP {PL : List D → Prop} (h : EJ ρ K te δ k (fun d => ∃ ds, d = .lst ds ∧ PL ds)) : IJ ρ K (iList K te) δ k PL := .mk fun G0 H0 G H σ m R w hm q =>
  (h).run G0 H0 G H σ m _ w hm fun d v G' H' m' pd w' g l x => by
    obtain ⟨ds, rfl, pl⟩ := pd
    cases x with
    | @lst a xs _ ha hl =>
      have e := hl.len
      refine ⟨a, rfl, ⟨xs, .inl (.inl (w'.gd.sub _ _ ha))⟩, q ds (Itl K a) G' H' (fun H => SqL K H a xs) (YAt xs) m' pl w' g l (by rw [← e]; exact walk_list) (fun H2 s => .inl (.inl (s _ _ ha))) ?_⟩
      intro i x H1 H2 Gx hi s1 s2 y
      obtain ⟨rfl, hx⟩ := y
      obtain ⟨d, hd, hat⟩ := AtL.getv (hl.mono s1) hx
      exact ⟨Gx, d, hd, Gd.refl s2, hat⟩
theorem ij_tup {ds : List D} (h : ED ρ K te δ (.tup ds)) : IJ ρ K (iTup K te) δ 0 (· = ds) := .mk fun G0 H0 G H σ m R w hm q =>
  (h).run G0 H0 G H σ m _ w hm fun d v G' H' m' pd w' g l x => by
    subst pd
    cases x with
    | @tup a xs _ ha hl =>
      have e := hl.len
      refine ⟨a, rfl, ⟨xs, Same.sqT w'.gd.sub ha⟩, q ds (Itt K a) G' H' (fun H => SqT K H a xs) (YAt xs) m' rfl w' g l (by rw [← e]; exact walk_tup) (fun H2 s => Same.sqT s ha) ?_⟩
      intro i x H1 H2 Gx hi s1 s2 y
      obtain ⟨rfl, hx⟩ := y
      obtain ⟨d, hd, hat⟩ := AtL.getv (hl.mono s1) hx
      exact ⟨Gx, d, hd, Gd.refl s2, hat⟩
/-- a new pair at each turn -/
theorem pair_at {Gx H1 H2 : Hp} {x y : V} {T : Addr} {a b : D} (s2 : Same Gx H1) (n : H1 T = none) (e : H2 = upd H1 T (.tup [x, y])) (ha : At K Gx x a) (hb : At K Gx y b) : ∃ G2, Gd none Gx H1 G2 H2 ∧ At K G2 (.ref T) (.tup [a, b]) := by
  subst e
  have g := Gd.alloc (o := HO.tup [x, y]) s2 n
  exact ⟨_, g, .tup (.inl (.inl upd_same)) (.cons (ha.mono g.gg) (.cons (hb.mono g.gg) .nil))⟩
end
def enumD (ds : List D) : List D := List.zipWith (fun (i : Nat) (d : D) => D.tup [.int (i : Int), d]) (List.range ds.length) ds
section
variable {ρ : Option Addr} {K : PySem.W.Frag} {E : XK} {δ δ' : Dl} {te ta tb tc : TE} {t u ts : TS} {tt tu : TT} {tA : TA} {tb' : TS} {k k1 k2 k3 : Nat} {P P1 P2 : D → Prop} {PO PO' : Out → Prop} {a b c d : D} {i : Nat}
theorem ij_enum {ds : List D} (h : EDA ρ K tA δ [.lst ds]) : IJ ρ K (iEnum K tA) δ 0 (· = enumD ds) := .mk fun G0 H0 G H σ m R w hm q =>
  (h).run G0 H0 G H σ m _ w hm fun es vs G' H' m' pd w' g l x => by
    subst pd
    cases x with
    | cons x r =>
      cases r
      cases x with
      | @lst a xs _ ha hl =>
        have e := hl.len
        refine ⟨a, xs, rfl, .inl (.inl (w'.gd.sub _ _ ha)), q _ (Ite K a) G' H' (fun H => SqL K H a xs) _ m' rfl w' g l (by simp only [enumD, List.length_zipWith, List.length_range, Nat.min_self]; rw [← e]; exact walk_enum) (fun H2 s => .inl (.inl (s _ _ ha))) ?_⟩
        intro i x H1 H2 Gx hi s1 s2 y
        obtain ⟨T, x, y, rfl, hT, rfl, e1, e2⟩ := y
        cases e1
        obtain ⟨d, hd, hat⟩ := AtL.getv (hl.mono s1) e2
        obtain ⟨G2, g2, h2⟩ := pair_at s2 hT rfl (.int (i : Nat)) hat
        refine ⟨G2, _, ?_, g2, h2⟩
        have hi2 : i < ds.length := by
          have := (List.getElem?_eq_some_iff.mp hd).1
          exact this
        simp [enumD, hi2, hd, List.getElem?_range, List.getElem?_zipWith]
        exact (List.getElem?_eq_some_iff.mp hd).2
theorem ij_zip {ds es : List D} (h : EDA ρ K tA δ [.lst ds, .lst es]) : IJ ρ K (iZip K tA) δ 0 (· = (ds.zip es).map fun p => D.tup [p.1, p.2]) := .mk fun G0 H0 G H σ m R w hm q =>
  (h).run G0 H0 G H σ m _ w hm fun fs vs G' H' m' pd w' g l x => by
    subst pd
    cases x with
    | cons x r =>
      cases r with
      | cons y r =>
        cases r
        cases x with
        | @lst a xs _ ha hl =>
          cases y with
          | @lst b ys _ hb hl2 =>
            have e := hl.len
            have e2 := hl2.len
            refine ⟨a, b, xs, ys, rfl, .inl (.inl (w'.gd.sub _ _ ha)), .inl (.inl (w'.gd.sub _ _ hb)), q _ (Itz K a b) G' H' _ _ m' rfl w' g l (walk_zip (by simp only [List.length_map, List.length_zip]; rw [← e, ← e2])) (fun H2 s => ⟨.inl (.inl (s _ _ ha)), .inl (.inl (s _ _ hb))⟩) ?_⟩
            intro i x H1 H2 Gx hi s1 s2 y
            obtain ⟨T, x, y, rfl, hT, rfl, e1, e2⟩ := y
            obtain ⟨d, hd, hat⟩ := AtL.getv (hl.mono s1) e1
            obtain ⟨d2, hd2, hat2⟩ := AtL.getv (hl2.mono s1) e2
            obtain ⟨G2, g2, h2⟩ := pair_at s2 hT rfl hat hat2
            refine ⟨G2, _, ?_, g2, h2⟩
            simp [List.getElem?_map, hd, hd2, List.zip, List.getElem?_zipWith]
theorem ij_range1P {PI : Int → Prop} (h : EJ ρ K te δ k (fun d => ∃ n, d = .int n ∧ PI n)) (hb : ∀ n, PI n → -(2 ^ 62) ≤ n ∧ n < 2 ^ 62) : IJ ρ K (iRng1 (tCons te tNil)) δ k (fun ds => ∃ n, PI n ∧ ds = (List.range n.toNat).map fun j => D.int (0 + (j : Nat))) := .mk fun G0 H0 G H σ m R w hm q =>
  (h).run G0 H0 G H σ m _ w hm fun d v G' H' m' pd w' g l x => by
    obtain ⟨n, rfl, pn⟩ := pd
    cases x
    refine ⟨n, rfl, (hb n pn).1, (hb n pn).2, q _ (Itr 0 n.toNat) G' H' _ _ m' ⟨n, pn, rfl⟩ w' g l (by simp only [List.length_map, List.length_range]; exact walk_range) (fun H2 s => trivial) ?_⟩
    intro i x H1 H2 Gx hi s1 s2 y
    obtain ⟨rfl, rfl⟩ := y
    simp only [List.length_map, List.length_range] at hi
    exact ⟨Gx, _, by simp [List.getElem?_map, List.getElem?_range, hi], Gd.refl s2, .int _⟩
theorem ij_range1 {n : Int} (h : ED ρ K te δ (.int n)) (hb : -(2 ^ 62) ≤ n ∧ n < 2 ^ 62) : IJ ρ K (iRng1 (tCons te tNil)) δ 0 (· = (List.range n.toNat).map fun j => D.int (0 + (j : Nat))) := .mk fun G0 H0 G H σ m R w hm q =>
  (ij_range1P (PI := (· = n)) (h.mono (Nat.le_refl _) fun d e => ⟨n, e, rfl⟩) (fun x e => by subst e; exact hb)).run G0 H0 G H σ m R w hm fun ds J G' H' Gp Y m' pd => by
    obtain ⟨x, rfl, rfl⟩ := pd
    exact q _ J G' H' Gp Y m' rfl

/-- the outcomes of a turn -/
def Turn (Nx Br : Dl → Prop) (PO : Out → Prop) : Out → Prop
  | .nx δ => Nx δ
  | .ct δ => Nx δ
  | .bk δ => Br δ
  | .rt d => PO (.rt d)
  | .ex C d => PO (.ex C d)
/-- the base is moved on -/
theorem Wf.rebase {G0 H0 G H : Hp} {σ : L2.St} {m : Nat} (w : Wf ρ K G0 H0 G H σ δ m) : Wf ρ K G H0 G H σ δ m :=
  ⟨w.len, ⟨w.gd.keep, Same.refl _, w.gd.sub, fun b e => .inl e⟩, w.pot, fun a e => ⟨(w.pot0 a e).1, w.gnone e⟩, w.sl, w.ap⟩
theorem Gd.unbase {G0 H0 G H G' H' : Hp} (g : Gd ρ G0 H0 G H) (h : Gd ρ G H0 G' H') : Gd ρ G0 H0 G' H' :=
  ⟨h.keep, g.gg.trans h.gg, h.sub, fun b e => by
    rcases h.new b e with z | z
    · exact g.new b z
    · exact .inr z⟩
theorem Wf.unbase {G0 H0 G H G' H' : Hp} {σ σ' : L2.St} {m m' : Nat} (w : Wf ρ K G0 H0 G H σ δ m) (w' : Wf ρ K G H0 G' H' σ' δ' m') : Wf ρ K G0 H0 G' H' σ' δ' m' :=
  ⟨w'.len, Gd.unbase w.gd w'.gd, w'.pot, w.pot0, w'.sl, w'.ap⟩
theorem sj_for {wi : TI} {g : TG} {L : List Nat} {PI : List D → Prop} {N kb : Nat} (hi : IJ ρ K wi δ k1 PI) (Inv : List D → Nat → Dl → Prop) (Br : Dl → Prop) (hN : ∀ ds, PI ds → ds.length ≤ N) (h0 : ∀ ds, PI ds → Inv ds 0 δ)
    (hs : ∀ ds i d δ', PI ds → ds[i]? = some d → Inv ds i δ' → ∃ δ'', GJ ρ K g L d δ' δ'' ∧ SJ ρ K E tb' δ'' kb (Turn (Inv ds (i + 1)) Br PO))
    (hd : ∀ ds δ', PI ds → (Inv ds ds.length δ' ∨ Br δ') → SJ ρ K E u δ' k2 PO) : SJ ρ K E (tSeq (tFor wi g tb') u) δ (k1 + (N * kb + k2)) PO := .mk fun G0 H0 G H σ m D w hm q =>
  (hi).run G0 H0 G H σ m _ w (by omega) fun ds J G1 H1 Gp Y m1 pds w1 g1 l1 wk hgp hy => by
    have hn := hN ds pds
    have hkb : ds.length * kb ≤ N * kb := Nat.mul_le_mul_right _ hn
    let Pv : Nat → L2.St → Hp → Prop := fun i σ' H' => ∃ δ' G' m', Inv ds i δ' ∧ Wf ρ K G1 H0 G' H' σ' δ' m' ∧ m' ≤ m1 + i * kb
    have fin : ∀ σ' H' δ' G' m', (Inv ds ds.length δ' ∨ Br δ') → Wf ρ K G1 H0 G' H' σ' δ' m' → m' ≤ m1 + N * kb → u D σ' H' := fun σ' H' δ' G' m' hb w' l' =>
      (hd ds δ' pds hb).run G0 H0 G' H' σ' m' D (w1.unbase w') (by omega) fun o po => (q o po).le (by omega)
    -- the loop's own way: a break goes to what follows
    refine ⟨fun i n σ' H' => n = ds.length - i ∧ i ≤ ds.length ∧ Pv i σ' H', ⟨ds.length, rfl, Nat.zero_le _, δ, G1, m1, h0 ds pds, w1.rebase, by omega⟩, ?_⟩
    rintro i n σ' H' ⟨rfl, hile, δ', G', m', hinv, w', l'⟩
    have hGp : Gp H' := hgp H' (w'.gd.gg.trans w'.gd.sub)
    by_cases hlt : i < ds.length
    · have hstep : (i + 1) * kb ≤ ds.length * kb := Nat.mul_le_mul_right _ hlt
      have hs1 : (i + 1) * kb = i * kb + kb := Nat.succ_mul i kb
      refine .inr ⟨wk.goes i H' hlt hGp, Pv (i + 1), fun σ2 H2 p => ⟨ds.length - (i + 1), by omega, rfl, hlt, p⟩, fun x H2 hyd => ?_⟩
      obtain ⟨G2, d, hd', g2, hat⟩ := hy i x H' H2 G' hlt w'.gd.gg w'.gd.sub (wk.yields i H' x H2 hlt hGp hyd)
      have w2 := w'.step g2.weak (w'.pot.keep g2)
      obtain ⟨δ'', hg, hsj⟩ := hs ds i d δ' pds hd' hinv
      refine (hg).run G1 H0 G2 H2 σ' x m' _ w2 hat fun σ3 w3 _ => ?_
      refine (hsj).run G1 H0 G2 H2 σ3 m' _ w3 (by omega) fun o po => ?_
      cases o with
      | nx δ3 => exact fun G4 H4 σ4 m4 w4 l4 => ⟨δ3, G4, m4, po, w4, by omega⟩
      | ct δ3 => exact fun G4 H4 σ4 m4 w4 l4 => ⟨δ3, G4, m4, po, w4, by omega⟩
      | bk δ3 => exact fun G4 H4 σ4 m4 w4 l4 => fin σ4 H4 δ3 G4 m4 (.inr po) w4 (by omega)
      | rt d3 => exact fun v G4 H4 m4 g4 p4 l4 a4 => q (.rt d3) po v G4 H4 m4 (Gd.unbase w1.gd g4) p4 (by omega) a4
      | ex C d3 => exact fun p v G4 H4 m4 g4 p4 l4 x4 a4 => q (.ex C d3) po p v G4 H4 m4 (Gd.unbase w1.gd g4) p4 (by omega) x4 a4
    · have e : i = ds.length := by omega
      subst e
      exact .inl ⟨wk.stops H' hGp, fin σ' H' δ' G' m' (.inl hinv) w' (by omega)⟩

/-! ### comprehensions -/
def wipeD (δ : Dl) : List Nat → Dl
  | [] => δ
  | v :: vs => (wipeD δ vs).set v none
theorem wipeD_len : ∀ (vs : List Nat), (wipeD δ vs).length = δ.length
  | [] => rfl
  | v :: vs => by unfold wipeD; rw [List.length_set, wipeD_len vs]
theorem wipeD_some {s : Sl} : ∀ {vs : List Nat} {i : Nat}, (wipeD δ vs)[i]? = some (some s) → δ[i]? = some (some s) ∧ i ∉ vs
  | [], i, h => ⟨h, by simp⟩
  | v :: vs, i, h => by
    unfold wipeD at h
    by_cases hi : v = i
    · subst hi
      by_cases hv : v < (wipeD δ vs).length
      · rw [List.getElem?_set_self hv] at h; cases h
      · rw [List.getElem?_eq_none (by rw [List.length_set]; omega)] at h; cases h
    · rw [List.getElem?_set_ne hi] at h
      obtain ⟨h1, h2⟩ := wipeD_some h
      exact ⟨h1, by simp only [List.mem_cons, not_or]; exact ⟨fun e => hi e.symm, h2⟩⟩
theorem wipe_ne {σ : L2.St} : ∀ {vs : List Nat} {i : Nat}, i ∉ vs → (wipe σ vs)[i]? = σ[i]?
  | [], _, _ => rfl
  | v :: vs, i, h => by
    unfold wipe
    rw [List.getElem?_set_ne (fun e => h (by rw [e]; exact List.mem_cons_self ..))]
    exact wipe_ne fun z => h (List.mem_cons_of_mem _ z)
theorem wipe_idem {σ : L2.St} (vs : List Nat) : wipe (wipe σ vs) vs = wipe σ vs := by
  have key : ∀ (ws : List Nat), (∀ i ∈ ws, i ∈ vs) → wipe (wipe σ ws) vs = wipe σ vs := by
    intro ws
    induction ws with
    | nil => intro _; rfl
    | cons y ys ih =>
      intro h
      show wipe ((wipe σ ys).set y none) vs = wipe σ vs
      rw [wipe_set_mem (h y (List.mem_cons_self ..))]
      exact ih fun i hi => h i (List.mem_cons_of_mem _ hi)
  exact key vs fun i h => h
theorem Wf.wipe {G0 H0 G H : Hp} {σ : L2.St} {m : Nat} (w : Wf ρ K G0 H0 G H σ δ m) (vs : List Nat) : Wf ρ K G0 H0 G H (L2.wipe σ vs) (wipeD δ vs) m where
  len := by rw [wipe_length, wipeD_len]; exact w.len
  gd := w.gd
  pot := w.pot
  pot0 := w.pot0
  sl := fun i s e => by
    obtain ⟨e1, e2⟩ := wipeD_some e
    obtain ⟨v, h1, h2⟩ := w.sl i s e1
    exact ⟨v, by rw [wipe_ne e2]; exact h1, h2⟩
  ap := fun i j d e n h1 h2 => by
    obtain ⟨a1, a2⟩ := wipeD_some h1
    obtain ⟨b1, b2⟩ := wipeD_some h2
    rw [wipe_ne a2, wipe_ne b2]
    exact w.ap i j d e n a1 b1
/-- another slots' view over the same heaps -/
theorem Wf.back {G0 H0 G H G' H' : Hp} {σ σ' : L2.St} {δ1 : Dl} {m m' : Nat} (w : Wf ρ K G0 H0 G H σ δ m) (w' : Wf ρ K G0 H0 G' H' σ' δ1 m') (g : Gd ρ G H G' H') : Wf ρ K G0 H0 G' H' σ δ m' := w.step g w'.pot
/-- an object p, new since H, is laid anew -/
theorem Gd.upd {G H G' H' : Hp} {p : Addr} {o : HO} (g : Gd ρ G H G' H') (n : H p = none) (n' : G' p = none) : Gd ρ G H G' (L2.upd H' p o) :=
  ⟨fun b u h e => by rw [upd_ne (ne_of_none e n)]; exact g.keep b u h e, g.gg, fun b u e => by rw [upd_ne (ne_of_none e n')]; exact g.sub b u e, g.new⟩
theorem PotS.upd {m : Nat} {H H' : Hp} {p : Addr} {o : HO} (h : PotS ρ m H') (q : PotS ρ m1 H) (n : H p = none) : PotS ρ m (L2.upd H' p o) := by
  cases ρ with
  | none => trivial
  | some a =>
    obtain ⟨x, y, z, hp, B⟩ := h
    obtain ⟨_, _, _, hq, _⟩ := q
    exact ⟨x, y, z, by rw [upd_ne (ne_of_none hq n)]; exact hp, B⟩
/-- lists alike, item by item -/
inductive All2 {α β : Type} (R : α → β → Prop) : List α → List β → Prop
  | nil : All2 R [] []
  | cons {a : α} {b : β} {as : List α} {bs : List β} : R a b → All2 R as bs → All2 R (a :: as) (b :: bs)
theorem All2.snoc {α β : Type} {R : α → β → Prop} : ∀ {as : List α} {bs : List β} {a : α} {b : β}, All2 R as bs → R a b → All2 R (as ++ [a]) (bs ++ [b])
  | _, _, _, _, .nil, h => .cons h .nil
  | _, _, _, _, .cons h t, u => .cons h (t.snoc u)
theorem All2.len {α β : Type} {R : α → β → Prop} : ∀ {as : List α} {bs : List β}, All2 R as bs → as.length = bs.length
  | _, _, .nil => rfl
  | _, _, .cons _ t => congrArg (· + 1) t.len
theorem All2.map_of {α β : Type} {f : α → β} : ∀ {as : List α} {bs : List β}, All2 (fun a b => b = f a) as bs → bs = as.map f
  | _, _, .nil => rfl
  | _, _, .cons h t => by subst h; rw [All2.map_of t]; rfl
theorem take_snoc {α : Type} {l : List α} {i : Nat} {x : α} (h : l[i]? = some x) : l.take (i + 1) = l.take i ++ [x] := by
  rw [List.take_add_one, h]; rfl
/-- [te for g in wi if tt]: p tells which stay, R what comes of each -/
theorem en_lc {wi : TI} {g : TG} {L vs : List Nat} {PI : List D → Prop} {N ke : Nat} {p : D → Bool} {R : D → D → Prop} {δt : D → Dl} (hi : IJ ρ K wi δ k1 PI) (hN : ∀ ds, PI ds → ds.length ≤ N) (hL : ∀ i ∈ L, i ∈ vs) (hN2 : N ≤ 1000000)
    (hg : ∀ ds d, PI ds → d ∈ ds → GJ ρ K g L d (wipeD δ vs) (δt d)) (ht : ∀ ds d, PI ds → d ∈ ds → EB ρ K tt (δt d) (p d)) (he : ∀ ds d, PI ds → d ∈ ds → p d = true → EJ ρ K te (δt d) ke (R d)) :
    EN ρ K (tLc wi g tt te vs) δ (k1 + N * ke) (fun r => ∃ ds rs, r = .lst rs ∧ PI ds ∧ All2 R (ds.filter p) rs) := .mk fun G0 H0 G H σ m Q w hm q =>
  (hi).run G0 H0 G H σ m _ w (by omega) fun ds J G1 H1 Gp Y m1 pds w1 g1 l1 wk hgp hy => fun L0 hL0 => by
    have hn := hN ds pds
    have hkb : ds.length * ke ≤ N * ke := Nat.mul_le_mul_right _ hn
    have nLp : ∀ o, PotS ρ m1 (L2.upd H1 L0 o) := fun o => w1.pot.upd w1.pot hL0
    let Pv : Nat → Hp → Prop := fun i Hc => ∃ Gc mc acc rs, Gd ρ G1 H1 Gc Hc ∧ PotS ρ mc Hc ∧ mc ≤ m1 + i * ke ∧ Hc L0 = some (.lst acc) ∧ AtL K Gc acc rs ∧ Gc L0 = none ∧ All2 R ((ds.take i).filter p) rs
    have toW : ∀ {Gc Hc : Hp} {mc : Nat}, Gd ρ G1 H1 Gc Hc → PotS ρ mc Hc → Wf ρ K G0 H0 Gc Hc σ δ mc := fun g2 p2 => w1.step g2 p2
    refine lc_it wk Pv ?_ (fun i Hc _ h => ?_) (fun i x Hc Hx hlt h hyd => ?_) (fun Hc h => ?_)
    · refine ⟨G1, m1, [], [], (Gd.alloc0 w1.gd.sub hL0).weak, nLp _, by omega, upd_same, .nil, ?_, by simpa using All2.nil⟩
      cases z : G1 L0 with
      | none => rfl
      | some o => rw [w1.gd.sub _ _ z] at hL0; cases hL0
    · obtain ⟨Gc, mc, acc, rs, g2, _⟩ := h
      exact hgp Hc (g2.gg.trans g2.sub)
    · obtain ⟨Gc, mc, acc, rs, g2, p2, l2, hacc, hat, hgc, hall⟩ := h
      have hstep : (i + 1) * ke ≤ ds.length * ke := Nat.mul_le_mul_right _ hlt
      have hs1 : (i + 1) * ke = i * ke + ke := Nat.succ_mul i ke
      obtain ⟨G2, d, hd, g3, had⟩ := hy i x Hc Hx Gc hlt g2.gg g2.sub hyd
      have w2 := toW g2 p2
      have w3 := w2.step g3.weak (p2.keep g3)
      have accx : Hx L0 = some (.lst acc) := g3.keep _ _ (by simp) hacc
      have gx : G2 L0 = none := by
        cases z : G2 L0 with
        | none => rfl
        | some o =>
          rcases g3.new L0 (ne_none_of z) with y | y
          · exact absurd hgc y
          · rw [hacc] at y; cases y
      have hmem : d ∈ ds := List.mem_of_getElem? hd
      refine (hg ds d pds hmem).run G0 H0 G2 Hx (L2.wipe σ vs) x mc _ (w3.wipe vs) had fun σ2 w4 hw => ⟨by rw [hw vs hL, wipe_idem], ?_⟩
      refine (ht ds d pds hmem).run G0 H0 G2 Hx σ2 mc _ w4 (by omega) fun b G3 H3 m3 pb w5 g4 l5 => ?_
      subst pb
      have nr : ρ ≠ some L0 := fun z => by
        have pp : PotS ρ m1 H1 := w1.pot
        rw [z] at pp
        obtain ⟨_, _, _, hp, _⟩ := pp
        rw [hL0] at hp; cases hp
      have g5 : Gd ρ G1 H1 G3 H3 := Gd.trans (w3.pot) (Gd.trans p2 g2 g3.weak) g4
      have acc3 : H3 L0 = some (.lst acc) := g4.keep _ _ nr accx
      have g3n : G3 L0 = none := by
        cases z : G3 L0 with
        | none => rfl
        | some o =>
          rcases g4.new L0 (ne_none_of z) with y | y
          · exact absurd gx y
          · rw [accx] at y; cases y
      cases hpd : p d with
      | false =>
        refine iteF ⟨G3, m3, acc, rs, g5, w5.pot, by omega, acc3, (hat.mono g3.gg).mono g4.gg, g3n, ?_⟩
        rw [take_snoc hd, List.filter_append]
        simpa [hpd] using hall
      | true =>
        refine iteT ?_
        refine (he ds d pds hmem hpd).run G0 H0 G3 H3 σ2 m3 _ w5 (by omega) fun r v G6 H6 m6 pr w6 g6 l6 ar => ?_
        have acc6 : H6 L0 = some (.lst acc) := g6.keep _ _ nr acc3
        have g6n : G6 L0 = none := by
          cases z : G6 L0 with
          | none => rfl
          | some o =>
            rcases g6.new L0 (ne_none_of z) with y | y
            · exact absurd g3n y
            · rw [acc3] at y; cases y
        have g7 : Gd ρ G1 H1 G6 H6 := Gd.trans w5.pot g5 g6
        have hrl : acc.length = rs.length := hat.len
        have hrl2 : ((ds.take i).filter p).length = rs.length := hall.len
        have hfl : ((ds.take i).filter p).length ≤ ds.length := Nat.le_trans (List.length_filter_le _ _) (by rw [List.length_take]; omega)
        refine ⟨acc, acc6, Nat.lt_of_le_of_lt (show acc.length ≤ 1000000 by omega) (by decide), G6, m6, acc ++ [v], rs ++ [r], g7.upd hL0 g6n, w6.pot.upd w1.pot hL0, by omega, upd_same, AtL.app (((hat.mono g3.gg).mono g4.gg).mono g6.gg) (.cons ar .nil), g6n, ?_⟩
        rw [take_snoc hd, List.filter_append]
        simpa [hpd] using hall.snoc pr
    · obtain ⟨Gc, mc, acc, rs, g2, p2, l2, hacc, hat, hgc, hall⟩ := h
      rw [List.take_length] at hall
      have hp0 : H L0 = none := by
        cases z : H L0 with
        | none => rfl
        | some x =>
          by_cases y : ρ = some L0
          · obtain ⟨_, _, _, hq, _⟩ : Pot m1 H1 L0 := by have := w1.pot; rw [y] at this; exact this
            rw [hL0] at hq; cases hq
          · rw [g1.keep _ x y z] at hL0; cases hL0
      exact q _ L0 (.lst acc) Gc Hc mc ⟨ds, rs, rfl, pds, hall⟩ (toW g2 p2) (Gd.trans w1.pot g1 g2) (by omega) hp0 hacc (.lst hat) hgc
theorem eb_yes : EB ρ K tYes δ true := .mk fun G0 H0 G H σ m Q w hm q => q true G H m rfl w (Gd.refl w.gd.sub) (Nat.le_refl _)
/-- the same, each item's own datum told -/
theorem en_lcE {wi : TI} {g : TG} {L vs : List Nat} {ds : List D} {p : D → Bool} {f : D → D} {δt : D → Dl} (hi : IJ ρ K wi δ 0 (· = ds)) (hL : ∀ i ∈ L, i ∈ vs) (hN : ds.length ≤ 1000000)
    (hg : ∀ d, d ∈ ds → GJ ρ K g L d (wipeD δ vs) (δt d)) (ht : ∀ d, d ∈ ds → EB ρ K tt (δt d) (p d)) (he : ∀ d, d ∈ ds → p d = true → ED ρ K te (δt d) (f d)) :
    EN ρ K (tLc wi g tt te vs) δ 0 (· = .lst ((ds.filter p).map f)) :=
  (en_lc (PI := (· = ds)) (N := ds.length) (ke := 0) (R := fun d r => r = f d) hi (fun es e => by subst e; exact Nat.le_refl _) hL hN (fun es d e hd => hg d (by subst e; exact hd)) (fun es d e hd => ht d (by subst e; exact hd)) (fun es d e hd => he d (by subst e; exact hd))).mono (by omega) fun r h => by
    obtain ⟨es, rs, rfl, rfl, ha⟩ := h
    rw [All2.map_of ha]

/-! ### promises -/
def initD (n : Nat) (ds : List D) : Dl := ds.map (fun d => some (.val d)) ++ List.replicate (n - ds.length) none
def spJ (K : PySem.W.Frag) (n : Nat) (pre : Option Addr → List D → Prop) (c : Nat) (post : List D → D → Prop) : Sp := fun vs H Q _ => ∃ (ρ : Option Addr) (G : Hp) (ds : List D) (m : Nat), AtL K G vs ds ∧ ds.length = n ∧ Same G H ∧ PotS ρ m H ∧
  (∀ a, ρ = some a → G a = none) ∧ m + c ≤ Mx ∧ pre ρ ds ∧ ∀ d v G' H' m', post ds d → Gd ρ G H G' H' → PotS ρ m' H' → m' ≤ m + c → At K G' v d → Q v H'
theorem spJ_len {n c : Nat} {pre : Option Addr → List D → Prop} {post : List D → D → Prop} {vs : List V} {H : Hp} {Q : VK} {E : XK} (h : spJ K n pre c post vs H Q E) : vs.length = n := by
  obtain ⟨ρ, G, ds, m, h1, h2, _⟩ := h
  rw [h1.len]; exact h2
theorem ej_call {n c : Nat} {pre : Option Addr → List D → Prop} {post : List D → D → Prop} {PA : List D → Prop} {EE : XK} (h : EA ρ K tA δ k PA) (h1 : ∀ ds, PA ds → ds.length = n ∧ pre ρ ds) (h2 : ∀ ds d, PA ds → post ds d → P d) :
    EJ ρ K (tCall (spJ K n pre c post) [] EE tA) δ (k + c) P := .mk fun G0 H0 G H σ m Q w hm q =>
  (h).run G0 H0 G H σ m _ w (by omega) fun ds vs G1 H1 m1 px w1 g1 l1 ax => by
    show spJ K n pre c post (vs ++ []) H1 Q EE
    rw [List.append_nil]
    exact ⟨ρ, G1, ds, m1, ax, (h1 ds px).1, w1.gd.sub, w1.pot, fun a e => w1.gnone e, by omega, (h1 ds px).2, fun d v G2 H2 m2 pd g2 p2 l2 a2 => q d v G2 H2 m2 (h2 ds d px pd) (w1.step g2 p2) (Gd.trans w1.pot g1 g2) (by omega) a2⟩
theorem start_get {N : List Str} {vs : List V} {i : Nat} {v : V} (h : vs[i]? = some v) : (L2.start N vs)[i]? = some (some v) := by
  unfold L2.start
  have hi : i < vs.length := (List.getElem?_eq_some_iff.mp h).1
  rw [List.getElem?_append_left (by rw [List.length_map]; exact hi), List.getElem?_map, h]; rfl
theorem body_of {N : List Str} {n c : Nat} {pre : Option Addr → List D → Prop} {post : List D → D → Prop} {vs : List V} {H : Hp} {Q : VK} {EE : XK}
    (hb : ∀ ρ ds, ds.length = n → pre ρ ds → ∃ k, k ≤ c ∧ SJ ρ K EE ts (initD N.length ds) k (fun o => (∃ d, o = .rt d ∧ post ds d) ∨ (∃ δ, o = .nx δ ∧ post ds .non))) (h : spJ K n pre c post vs H Q EE) :
    ts { nx := fun _ H' => Q .non H', rt := Q } (L2.start N vs) H := by
  obtain ⟨ρ, G, ds, m, ha, hl, hs, hp, hg, hm, hpre, q⟩ := h
  obtain ⟨k, hk, hb⟩ := hb ρ ds hl hpre
  have hvl := ha.len
  have dl : ∀ {i : Nat} {s : Sl}, (initD N.length ds)[i]? = some (some s) → ∃ d, s = .val d ∧ ds[i]? = some d := by
    intro i s e
    unfold initD at e
    by_cases hi : i < ds.length
    · rw [List.getElem?_append_left (by rw [List.length_map]; exact hi), List.getElem?_map, List.getElem?_eq_getElem hi] at e
      cases e
      exact ⟨ds[i], rfl, List.getElem?_eq_getElem hi⟩
    · rw [List.getElem?_append_right (by rw [List.length_map]; omega)] at e
      have e2 := (List.getElem?_replicate).symm.trans e
      split at e2 <;> cases e2
  have w : Wf ρ K G H G H (L2.start N vs) (initD N.length ds) m := by
    refine ⟨?_, Gd.refl hs, hp, fun a e => ⟨?_, hg a e⟩, fun i s e => ?_, fun i j d e n h1 h2 => ?_⟩
    · unfold L2.start initD
      rw [List.length_append, List.length_append, List.length_map, List.length_map, List.length_replicate, List.length_replicate, hvl]
    · subst e
      obtain ⟨_, _, _, h, _⟩ := hp
      rw [h]; simp
    · obtain ⟨d, rfl, hd⟩ := dl e
      obtain ⟨v, hv, hav⟩ := ha.get hd
      exact ⟨v, start_get hv, hav⟩
    · obtain ⟨x, hx, _⟩ := dl h1
      cases hx
  refine hb.run G H G H (L2.start N vs) m _ w (by omega) fun o po => ?_
  rcases po with ⟨d, rfl, pd⟩ | ⟨δ, rfl, pd⟩
  · exact fun v G' H' m' g p l a => q d v G' H' m' pd g p (by omega) a
  · exact fun G' H' σ' m' w' l => q .non .non G' H' m' pd w'.gd w'.pot (by omega) .non
end
end DN

/-! ground 4: operations over data -/
namespace DN
open PySem PySem.Spec PyProof.Rows L2
section
variable {ρ : Option Addr} {K : PySem.W.Frag} {E : XK} {δ δ' : Dl} {te ta tb tc : TE} {t u ts : TS} {tt tu : TT} {tA : TA} {k k1 k2 k3 : Nat} {P P1 P2 : D → Prop} {PO PO' : Out → Prop} {a b c d : D} {i : Nat} {X : Cx}

/-! ints -/
theorem rj_I0 {f : Int → Int → Int} {i j : Int} : RJ K (rI0 fun i j => .int (f i j)) (.int i) (.int j) (.int (f i j)) := .mk fun x y G H Q hx hy s q => by
  cases hx; cases hy
  exact ⟨i, j, rfl, rfl, q _ G H (Gd.refl s) (.int _)⟩
theorem rj_B0 {f : Int → Int → Bool} {i j : Int} : RJ K (rI0 fun i j => .bl (f i j)) (.int i) (.int j) (.bl (f i j)) := .mk fun x y G H Q hx hy s q => by
  cases hx; cases hy
  exact ⟨i, j, rfl, rfl, q _ G H (Gd.refl s) (.bl _)⟩
theorem rj_I {C : Int → Int → Prop} {f : Int → Int → Int} {i j : Int} (h : C i j) : RJ K (rI C fun i j => .int (f i j)) (.int i) (.int j) (.int (f i j)) := .mk fun x y G H Q hx hy s q => by
  cases hx; cases hy
  exact ⟨i, j, rfl, rfl, h, q _ G H (Gd.refl s) (.int _)⟩
/-! == of atoms -/
def atomD : D → Bool
  | .non => true | .bl _ => true | .int _ => true | .str _ => true | _ => false
def scalD : D → D → Bool
  | .non, .non => true | .non, .int _ => true | .int _, .non => true | .non, .bl _ => true | .bl _, .non => true | .non, .str _ => true | .str _, .non => true
  | .int _, .int _ => true | .bl _, .bl _ => true | .str _, .str _ => true
  | .int _, .str _ => true | .str _, .int _ => true | .bl _, .str _ => true | .str _, .bl _ => true
  | _, _ => false
def eqA : D → D → Bool
  | .non, .non => true | .bl a, .bl b => decide (a = b) | .int a, .int b => decide (a = b) | .str a, .str b => decide (a = b) | _, _ => false
theorem at_scal {G : Hp} {x y : V} {a b : D} (hx : At K G x a) (hy : At K G y b) (h : scalD a b = true) : scal x y = true ∧ decide (x = y) = eqA a b := by
  cases hx <;> first | (cases hy <;> first | exact ⟨rfl, by simp [eqA]⟩ | exact absurd h (by simp [scalD])) | exact absurd h (by simp [scalD])
theorem rj_eq {a b : D} (h : scalD a b = true) : RJ K rEq a b (.bl (eqA a b)) := .mk fun x y G H Q hx hy s q => by
  obtain ⟨h1, h2⟩ := at_scal hx hy h
  refine ⟨h1, ?_⟩
  rw [h2]
  exact q _ G H (Gd.refl s) (.bl _)
theorem rj_ne {a b : D} (h : scalD a b = true) : RJ K rNe a b (.bl (!eqA a b)) := .mk fun x y G H Q hx hy s q => by
  obtain ⟨h1, h2⟩ := at_scal hx hy h
  refine ⟨h1, ?_⟩
  rw [h2]
  exact q _ G H (Gd.refl s) (.bl _)
theorem rj_eqI {i j : Int} : RJ K rEq (.int i) (.int j) (.bl (decide (i = j))) := rj_eq rfl
theorem rj_neI {i j : Int} : RJ K rNe (.int i) (.int j) (.bl (!decide (i = j))) := rj_ne rfl
theorem rj_eqS {i j : Str} : RJ K rEq (.str i) (.str j) (.bl (decide (i = j))) := rj_eq rfl
theorem rj_neS {i j : Str} : RJ K rNe (.str i) (.str j) (.bl (!decide (i = j))) := rj_ne rfl
/-! items -/
theorem AtL.atI {G : Hp} {vs : List V} {ds : List D} {i : Int} {d : D} (h : AtL K G vs ds) (e : L2.atI ds i = some d) : ∃ v, L2.atI vs i = some v ∧ At K G v d := by
  unfold L2.atI at e ⊢
  rw [h.len]
  cases q : ixN ds.length i with
  | none => rw [q] at e; cases e
  | some j =>
    rw [q] at e
    exact h.get e
theorem rj_ixL {ds : List D} {i : Int} {d : D} (e : atI ds i = some d) : RJ K (rIxL K) (.lst ds) (.int i) d := .mk fun x y G H Q hx hy s q => by
  cases hy
  cases hx with
  | @lst a xs _ ha hl =>
    obtain ⟨v, h1, h2⟩ := hl.atI e
    exact ⟨a, xs, i, v, rfl, rfl, .inl (.inl (s _ _ ha)), h1, q v G H (Gd.refl s) h2⟩
theorem rj_ixT {ds : List D} {i : Int} {d : D} (e : atI ds i = some d) : RJ K (rIxT K) (.tup ds) (.int i) d := .mk fun x y G H Q hx hy s q => by
  cases hy
  cases hx with
  | @tup a xs _ ha hl =>
    obtain ⟨v, h1, h2⟩ := hl.atI e
    exact ⟨a, xs, i, v, rfl, rfl, Same.sqT s ha, h1, q v G H (Gd.refl s) h2⟩
theorem rj_ixS {z : Str} {i : Int} {c : Nat} (hz : z.length ≤ 1000000) (e : atI z.cps.toList i = some c) : RJ K rIxS (.str z) (.int i) (.str ⟨#[c]⟩) := .mk fun x y G H Q hx hy s q => by
  cases hx; cases hy
  exact ⟨z, i, c, rfl, rfl, Nat.le_trans hz (by decide), e, q _ G H (Gd.refl s) (.str _)⟩
/-! in, not in: flat items -/
def eqF : D → D → Bool
  | .non, .non => true
  | .bl a, .bl b => a == b
  | .bl a, .int b => (if a then 1 else 0) == b
  | .int a, .bl b => a == (if b then 1 else 0)
  | .int a, .int b => a == b
  | .str a, .str b => a == b
  | _, _ => false
theorem at_flat {G : Hp} {x : V} {a : D} (hx : At K G x a) (h : atomD a = true) : flatV x = true := by
  cases hx <;> first | rfl | exact absurd h (by simp [atomD])
theorem at_eqV {G : Hp} {x y : V} {a b : D} (hx : At K G x a) (hy : At K G y b) (h : atomD a = true) (h' : atomD b = true) : eqV x y = eqF a b := by
  cases hx <;> first | (exfalso; revert h; simp [atomD]; done) | (cases hy <;> first | (exfalso; revert h'; simp [atomD]; done) | rfl)
theorem at_inV {G : Hp} {x : V} {a : D} (hx : At K G x a) (h : atomD a = true) : ∀ {vs : List V} {ds : List D}, AtL K G vs ds → ds.all atomD = true → vs.all flatV = true ∧ inV x vs = ds.any fun y => eqF y a
  | _, _, .nil, _ => ⟨rfl, rfl⟩
  | _, _, .cons hv ht, hf => by
    rw [List.all_cons, Bool.and_eq_true] at hf
    obtain ⟨h1, h2⟩ := at_inV hx h ht hf.2
    refine ⟨by rw [List.all_cons, at_flat hv hf.1, h1]; rfl, ?_⟩
    unfold inV at h2 ⊢
    rw [List.any_cons, List.any_cons, at_eqV hv hx hf.1 h, h2]
theorem rj_in {neg : Bool} {ds : List D} {a : D} (h : atomD a = true) (hf : ds.all atomD = true) : RJ K (rIn K neg) a (.lst ds) (.bl (if neg then !(ds.any fun y => eqF y a) else ds.any fun y => eqF y a)) := .mk fun x y G H Q hx hy s q => by
  cases hy with
  | @lst p xs _ ha hl =>
    obtain ⟨h1, h2⟩ := at_inV hx h hl hf
    refine ⟨p, xs, rfl, .inl (.inl (.inl (s _ _ ha))), at_flat hx h, h1, ?_⟩
    rw [h2]
    exact q _ G H (Gd.refl s) (.bl _)
theorem rj_inT {neg : Bool} {ds : List D} {a : D} (h : atomD a = true) (hf : ds.all atomD = true) : RJ K (rIn K neg) a (.tup ds) (.bl (if neg then !(ds.any fun y => eqF y a) else ds.any fun y => eqF y a)) := .mk fun x y G H Q hx hy s q => by
  cases hy with
  | @tup p xs _ ha hl =>
    obtain ⟨h1, h2⟩ := at_inV hx h hl hf
    refine ⟨p, xs, rfl, .inr (Same.sqT s ha), at_flat hx h, h1, ?_⟩
    rw [h2]
    exact q _ G H (Gd.refl s) (.bl _)
/-! built-ins -/
theorem cj_len {ds : List D} : CJ K (fun xs H Q => ∃ p ys, xs = [.ref p] ∧ (SqL K H p ys ∨ SqT K H p ys) ∧ Q (.int ys.length) H) [.lst ds] (.int (ds.length : Nat)) := .mk fun xs G H Q hx s q => by
  cases hx with
  | cons h r =>
    cases r
    cases h with
    | @lst p ys _ ha hl => exact ⟨p, ys, rfl, .inl (.inl (.inl (s _ _ ha))), q _ G H (Gd.refl s) (by rw [hl.len]; exact .int _)⟩
theorem cj_lenT {ds : List D} : CJ K (fun xs H Q => ∃ p ys, xs = [.ref p] ∧ (SqL K H p ys ∨ SqT K H p ys) ∧ Q (.int ys.length) H) [.tup ds] (.int (ds.length : Nat)) := .mk fun xs G H Q hx s q => by
  cases hx with
  | cons h r =>
    cases r
    cases h with
    | @tup p ys _ ha hl => exact ⟨p, ys, rfl, .inr (Same.sqT s ha), q _ G H (Gd.refl s) (by rw [hl.len]; exact .int _)⟩
theorem cj_lenS {z : Str} (hz : z.length ≤ 1000000) : CJ K (fun xs H Q => ∃ z, xs = [.str z] ∧ z.length ≤ sizeLine ∧ Q (.int z.length) H) [.str z] (.int (z.length : Nat)) := .mk fun xs G H Q hx s q => by
  cases hx with
  | cons h r =>
    cases r
    cases h
    exact ⟨z, rfl, Nat.le_trans hz (by decide), q _ G H (Gd.refl s) (.int _)⟩
theorem cj_abs {i : Int} : CJ K (fun xs H Q => ∃ i, xs = [.int i] ∧ Q (.int (if i < 0 then -i else i)) H) [.int i] (.int (if i < 0 then -i else i)) := .mk fun xs G H Q hx s q => by
  cases hx with
  | cons h r =>
    cases r
    cases h
    exact ⟨i, rfl, q _ G H (Gd.refl s) (.int _)⟩
theorem cj_int {i : Int} : CJ K (fun xs H Q => (∃ i, xs = [.int i] ∧ Q (.int i) H) ∨ ∃ k, xs = [.bl k] ∧ Q (.int (if k then 1 else 0)) H) [.int i] (.int i) := .mk fun xs G H Q hx s q => by
  cases hx with
  | cons h r =>
    cases r
    cases h
    exact .inl ⟨i, rfl, q _ G H (Gd.refl s) (.int _)⟩
theorem cj_intB {b : Bool} : CJ K (fun xs H Q => (∃ i, xs = [.int i] ∧ Q (.int i) H) ∨ ∃ k, xs = [.bl k] ∧ Q (.int (if k then 1 else 0)) H) [.bl b] (.int (if b then 1 else 0)) := .mk fun xs G H Q hx s q => by
  cases hx with
  | cons h r =>
    cases r
    cases h
    exact .inr ⟨b, rfl, q _ G H (Gd.refl s) (.int _)⟩
theorem cj_str {i : Int} (h : i.natAbs.log2 < 1920) : CJ K (fun xs H Q => ∃ i, xs = [.int i] ∧ i.natAbs.log2 < 1920 ∧ Q (.str (toString i)) H) [.int i] (.str (toString i)) := .mk fun xs G H Q hx s q => by
  cases hx with
  | cons h' r =>
    cases r
    cases h'
    exact ⟨i, rfl, h, q _ G H (Gd.refl s) (.str _)⟩
theorem cj_max2 {i j : Int} : CJ K (fun xs H Q => ∃ i j, xs = [.int i, .int j] ∧ Q (.int (if j > i then j else i)) H) [.int i, .int j] (.int (if j > i then j else i)) := .mk fun xs G H Q hx s q => by
  cases hx with
  | cons h r =>
    cases r with
    | cons h2 r2 =>
      cases r2
      cases h
      cases h2
      exact ⟨i, j, rfl, q _ G H (Gd.refl s) (.int _)⟩
theorem cj_min2 {i j : Int} : CJ K (fun xs H Q => ∃ i j, xs = [.int i, .int j] ∧ Q (.int (if j < i then j else i)) H) [.int i, .int j] (.int (if j < i then j else i)) := .mk fun xs G H Q hx s q => by
  cases hx with
  | cons h r =>
    cases r with
    | cons h2 r2 =>
      cases r2
      cases h
      cases h2
      exact ⟨i, j, rfl, q _ G H (Gd.refl s) (.int _)⟩
theorem cj_sum {ns : List Int} : CJ K (rSum K) [.lst (ns.map D.int)] (.int ns.sum) := .mk fun xs G H Q hx s q => by
  cases hx with
  | cons h r =>
    cases r
    cases h with
    | @lst p ys _ ha hl =>
      have e := hl.ints
      subst e
      exact ⟨p, ns, rfl, .inl (.inl (s _ _ ha)), q _ G H (Gd.refl s) (.int _)⟩
theorem cj_all {bs : List Bool} : CJ K (rAll K) [.lst (bs.map D.bl)] (.bl (bs.all id)) := .mk fun xs G H Q hx s q => by
  cases hx with
  | cons h r =>
    cases r
    cases h with
    | @lst p ys _ ha hl =>
      have e := hl.bls
      subst e
      exact ⟨p, bs, rfl, .inl (.inl (s _ _ ha)), q _ G H (Gd.refl s) (.bl _)⟩
theorem cj_tupL {ds : List D} : CJ K (fun xs H Q => ∃ p ys, xs = [.ref p] ∧ ((SqL K H p ys ∧ ∀ l, H l = none → Q (.ref l) (upd H l (.tup ys))) ∨ (SqT K H p ys ∧ Q (.ref p) H))) [.lst ds] (.tup ds) := .mk fun xs G H Q hx s q => by
  cases hx with
  | cons h r =>
    cases r
    cases h with
    | @lst p ys _ ha hl =>
      refine ⟨p, ys, rfl, .inl ⟨.inl (.inl (s _ _ ha)), fun l hn => ?_⟩⟩
      have g := Gd.alloc (o := HO.tup ys) s hn
      exact q _ _ _ g (.tup (.inl (.inl upd_same)) (hl.mono g.gg))
theorem cj_tupT {ds : List D} : CJ K (fun xs H Q => ∃ p ys, xs = [.ref p] ∧ ((SqL K H p ys ∧ ∀ l, H l = none → Q (.ref l) (upd H l (.tup ys))) ∨ (SqT K H p ys ∧ Q (.ref p) H))) [.tup ds] (.tup ds) := .mk fun xs G H Q hx s q => by
  cases hx with
  | cons h r =>
    cases r
    cases h with
    | @tup p ys _ ha hl => exact ⟨p, ys, rfl, .inr ⟨Same.sqT s ha, q _ G H (Gd.refl s) (.tup ha hl)⟩⟩
/-- list(x) -/
theorem en_list {ds : List D} (h : EDA ρ K tA δ [.lst ds]) : EN ρ K (tCB (fun xs H Q => ∃ p ys, xs = [.ref p] ∧ (SqL K H p ys ∨ SqT K H p ys) ∧ ∀ l, H l = none → Q (.ref l) (upd H l (.lst ys))) tA) δ 0 (· = .lst ds) := .mk fun G0 H0 G H σ m Q w hm q =>
  (h).run G0 H0 G H σ m _ w hm fun es vs G1 H1 m1 px w1 g1 l1 ax => by
    subst px
    cases ax with
    | cons x r =>
      cases r
      cases x with
      | @lst p ys _ ha hl => exact ⟨p, ys, rfl, .inl (.inl (.inl (w1.gd.sub _ _ ha))), en_fin w w1 g1 (.lst hl) fun p o G' H' m' w' g' l' => q (.lst ds) p o G' H' m' rfl w' g' (by omega)⟩
theorem en_listT {ds : List D} (h : EDA ρ K tA δ [.tup ds]) : EN ρ K (tCB (fun xs H Q => ∃ p ys, xs = [.ref p] ∧ (SqL K H p ys ∨ SqT K H p ys) ∧ ∀ l, H l = none → Q (.ref l) (upd H l (.lst ys))) tA) δ 0 (· = .lst ds) := .mk fun G0 H0 G H σ m Q w hm q =>
  (h).run G0 H0 G H σ m _ w hm fun es vs G1 H1 m1 px w1 g1 l1 ax => by
    subst px
    cases ax with
    | cons x r =>
      cases r
      cases x with
      | @tup p ys _ ha hl => exact ⟨p, ys, rfl, .inr (Same.sqT w1.gd.sub ha), en_fin w w1 g1 (.lst hl) fun p o G' H' m' w' g' l' => q (.lst ds) p o G' H' m' rfl w' g' (by omega)⟩
/-- list(range(n)) -/
theorem en_listRg {n : Int} (h : ED ρ K te δ (.int n)) (h0 : 0 ≤ n) (hn : n ≤ 1000000) : EN ρ K (tLstRg (tRg1 te)) δ 0 (· = .lst ((List.range n.toNat).map fun j => D.int ((j : Nat) : Int))) := .mk fun G0 H0 G H σ m Q w hm q =>
  h.run G0 H0 G H σ m _ w hm fun d v G1 H1 m1 px w1 g1 l1 ax => by
    subst px
    cases ax
    have e : rgV 0 n = ((List.range n.toNat).map fun j => ((j : Nat) : Int)).map V.int := by
      unfold rgV
      rw [List.map_map, show n - 0 = n by omega]
      refine List.map_congr_left fun x _ => ?_
      simp
    have e2 : ((List.range n.toNat).map fun j => D.int ((j : Nat) : Int)) = ((List.range n.toNat).map fun j => ((j : Nat) : Int)).map D.int := by
      rw [List.map_map]; rfl
    refine ⟨n, rfl, RgOk.of_le (by omega) (by omega) (by omega) h0, ?_⟩
    rw [e2] at q
    rw [e]
    exact en_fin w w1 g1 (.lst (atL_ints _)) fun p o G' H' m' w' g' l' => q _ p o G' H' m' rfl w' g' (by omega)
/-! lists laid together -/
theorem en_cat {P1 P2 : List D → Prop} (ha : EJ ρ K ta δ k1 (fun d => ∃ ds, d = .lst ds ∧ P1 ds)) (hb : ∀ ds, P1 ds → EJ ρ K tb δ k2 (fun d => ∃ es, d = .lst es ∧ P2 es)) (hl : ∀ ds es, P1 ds → P2 es → ds.length + es.length ≤ 1000000) :
    EN ρ K (tOp rCat ta tb) δ (k1 + k2) (fun d => ∃ ds es, P1 ds ∧ P2 es ∧ d = .lst (ds ++ es)) := .mk fun G0 H0 G H σ m Q w hm q =>
  (ha).run G0 H0 G H σ m _ w (by omega) fun d v G1 H1 m1 px w1 g1 l1 ax => by
    obtain ⟨ds, rfl, p1⟩ := px
    refine (hb ds p1).run G0 H0 G1 H1 σ m1 _ w1 (by omega) fun d v G2 H2 m2 px w2 g2 l2 bx => ?_
    obtain ⟨es, rfl, p2⟩ := px
    have ax2 := ax.mono g2.gg
    cases ax2 with
    | @lst p xs _ hp hpl =>
      cases bx with
      | @lst p' xs' _ hp' hpl' =>
        exact ⟨p, p', xs, xs', rfl, rfl, w2.gd.sub _ _ hp, w2.gd.sub _ _ hp', by rw [hpl.len, hpl'.len]; exact Nat.le_trans (hl ds es p1 p2) (by decide),
          en_fin w w2 (Gd.trans w1.pot g1 g2) (.lst (hpl.app hpl')) fun p o G' H' m' w' g' l' => q _ p o G' H' m' ⟨ds, es, p1, p2, rfl⟩ w' g' (by omega)⟩
theorem en_catE {ds es : List D} (ha : ED ρ K ta δ (.lst ds)) (hb : ED ρ K tb δ (.lst es)) (hl : ds.length + es.length ≤ 1000000) : EN ρ K (tOp rCat ta tb) δ 0 (· = .lst (ds ++ es)) :=
  (en_cat (P1 := (· = ds)) (P2 := (· = es)) (ha.mono (Nat.le_refl _) fun d e => ⟨ds, e, rfl⟩) (fun x e => hb.mono (Nat.le_refl _) fun d e => ⟨es, e, rfl⟩) (fun x y e f => by subst e f; exact hl)).mono (Nat.le_refl _) fun d e => by
    obtain ⟨x, y, rfl, rfl, rfl⟩ := e
    rfl
theorem rj_addS {x y : Str} (h : x.length + y.length ≤ 1000000) : RJ K (fun x y H Q => ∃ i j, x = .str i ∧ y = .str j ∧ i.length + j.length ≤ sizeLine ∧ Q (.str (i ++ j)) H) (.str x) (.str y) (.str (x ++ y)) := .mk fun v w G H Q hx hy s q => by
  cases hx; cases hy
  exact ⟨x, y, rfl, rfl, Nat.le_trans h (by decide), q _ G H (Gd.refl s) (.str _)⟩
/-- an item of a list at a place that is drawn -/
theorem ej_ixL {PL : List D → Prop} {PI : Int → Prop} (ha : EJ ρ K ta δ k1 (fun d => ∃ ds, d = .lst ds ∧ PL ds)) (hb : ∀ ds, PL ds → EJ ρ K tb δ k2 (fun d => ∃ i, d = .int i ∧ 0 ≤ i ∧ i < ds.length)) (hp : ∀ ds d, PL ds → d ∈ ds → P d) : EJ ρ K (tOp (rIxL K) ta tb) δ (k1 + k2) P := .mk fun G0 H0 G H σ m Q w hm q =>
  (ha).run G0 H0 G H σ m _ w (by omega) fun d v G1 H1 m1 px w1 g1 l1 ax => by
    obtain ⟨ds, rfl, p1⟩ := px
    refine (hb ds p1).run G0 H0 G1 H1 σ m1 _ w1 (by omega) fun d v G2 H2 m2 px w2 g2 l2 bx => ?_
    obtain ⟨i, rfl, i0, i1⟩ := px
    cases bx
    have ax2 := ax.mono g2.gg
    cases ax2 with
    | @lst p xs _ hp' hpl =>
      have hi : i.toNat < ds.length := by omega
      obtain ⟨x, hx, hax⟩ := hpl.get (List.getElem?_eq_getElem hi)
      refine ⟨p, xs, i, x, rfl, rfl, .inl (.inl (w2.gd.sub _ _ hp')), ?_, q _ x G2 H2 m2 (hp ds _ p1 (List.getElem_mem hi)) w2 (Gd.trans w1.pot g1 g2) (by omega) hax⟩
      have e : i = (i.toNat : Int) := by omega
      rw [e]
      exact atI_nat hx
/-! slices of lists -/
theorem AtL.cut {G : Hp} {vs : List V} {ds : List D} (h : AtL K G vs ds) (lo hi : Option Int) : AtL K G (cutV vs lo hi) ((ds.drop (HT.sIx ds.length 0 lo)).take (HT.sIx ds.length ds.length hi - HT.sIx ds.length 0 lo)) := by
  unfold cutV
  rw [h.len]
  exact (h.drop _).take _
def cutD (ds : List D) (lo hi : Option Int) : List D := (ds.drop (HT.sIx ds.length 0 lo)).take (HT.sIx ds.length ds.length hi - HT.sIx ds.length 0 lo)
/-- a slice's part -/
structure EO (ρ : Option Addr) (K : PySem.W.Frag) (tl : TO) (δ : Dl) (o : Option Int)  : Prop where
  run : ∀ (G0 H0 G H : Hp) (σ : L2.St) (m : Nat) (Q : Option Int → Hp → Prop), Wf ρ K G0 H0 G H σ δ m → m ≤ Mx →
  (∀ G' H' m', Wf ρ K G0 H0 G' H' σ δ m' → Gd ρ G H G' H' → m' ≤ m → Q o H') → tl σ H Q
theorem eo_none : EO ρ K tNoPart δ none := .mk fun G0 H0 G H σ m Q w hm q => q G H m w (Gd.refl w.gd.sub) (Nat.le_refl _)
theorem eo_some {i : Int} (h : ED ρ K te δ (.int i)) : EO ρ K (tPart te) δ (some i) := .mk fun G0 H0 G H σ m Q w hm q =>
  (h).run G0 H0 G H σ m _ w hm fun d v G' H' m' pd w' g l x => by
    subst pd
    cases x
    exact ⟨i, rfl, q G' H' m' w' g l⟩
theorem en_sl {ds : List D} {tl th : TO} {lo hi : Option Int} (h : ED ρ K te δ (.lst ds)) (hl : EO ρ K tl δ lo) (hh : EO ρ K th δ hi) : EN ρ K (tSl (rSlL K) te tl th) δ 0 (· = .lst (cutD ds lo hi)) := .mk fun G0 H0 G H σ m Q w hm q =>
  (h).run G0 H0 G H σ m _ w hm fun d v G1 H1 m1 px w1 g1 l1 ax => by
    subst px
    refine (hl).run G0 H0 G1 H1 σ m1 _ w1 (by omega) fun G2 H2 m2 w2 g2 l2 => ?_
    refine (hh).run G0 H0 G2 H2 σ m2 _ w2 (by omega) fun G3 H3 m3 w3 g3 l3 => ?_
    have ax2 := (ax.mono g2.gg).mono g3.gg
    cases ax2 with
    | @lst p xs _ hp hpl =>
      exact ⟨p, xs, rfl, .inl (.inl (w3.gd.sub _ _ hp)), en_fin w w3 (Gd.trans w2.pot (Gd.trans w1.pot g1 g2) g3) (.lst (hpl.cut lo hi)) fun p o G' H' m' w' g' l' => q _ p o G' H' m' rfl w' g' (by omega)⟩
theorem sj_run {G0 H0 G H : Hp} {σ : L2.St} {m : Nat} {DD : Ends} (h : SJ ρ K E (tSeq t u) δ k PO) (w : Wf ρ K G0 H0 G H σ δ m) (hm : m + k ≤ Mx) (q : ∀ o, PO o → EndsOk ρ K G0 H0 DD E (m + k) o) : tSeq t u DD σ H := h.run G0 H0 G H σ m DD w hm q
theorem sj_le {k' : Nat} (h : SJ ρ K E ts δ k PO) (hk : k ≤ k') : SJ ρ K E ts δ k' PO := h.mono hk fun _ p => p
theorem ej_ixE {ds : List D} {i : Int} (ha : ED ρ K ta δ (.lst ds)) (hb : ED ρ K tb δ (.int i)) (h0 : 0 ≤ i) (h1 : i < ds.length) : EJ ρ K (tOp (rIxL K) ta tb) δ 0 (fun d => d ∈ ds) :=
  ej_ixL (PL := (· = ds)) (PI := fun _ => True) (ha.mono (Nat.le_refl _) fun d e => ⟨ds, e, rfl⟩) (fun es e => hb.mono (Nat.le_refl _) fun d e2 => ⟨i, e2, h0, by subst e; exact h1⟩) fun es d e hd => by subst e; exact hd
theorem ej_modE {i j : Int} (ha : ED ρ K ta δ (.int i)) (hb : ED ρ K tb δ (.int j)) (h : 0 < j) : EJ ρ K (tOp (rI (fun _ j => 0 < j) fun i j => .int (i % j)) ta tb) δ 0 (fun d => ∃ r, d = .int r ∧ 0 ≤ r ∧ r < j) :=
  (ed_op ha hb (rj_I h)).mono (Nat.le_refl _) fun d e => ⟨_, e, Int.emod_nonneg _ (by omega), Int.emod_lt_of_pos _ h⟩
/-- some[_law_take(pot, len(some))], over a list or a text -/
theorem rj_ix_lst {ds : List D} {i : Int} {d : D} (e : atI ds i = some d) : RJ K (rIx K) (.lst ds) (.int i) d := .mk fun x y G H Q hx hy s q => .inl ((rj_ixL e).run x y G H Q hx hy s q)
theorem rj_ix_str {z : Str} {i : Int} {c : Nat} (hz : z.length ≤ 1000000) (e : atI z.cps.toList i = some c) : RJ K (rIx K) (.str z) (.int i) (.str ⟨#[c]⟩) := .mk fun x y G H Q hx hy s q => .inr (.inr ((rj_ixS hz e).run x y G H Q hx hy s q))
abbrev rLenA (K : PySem.W.Frag) : List V → Hp → VK → Prop := fun xs H Q => ∃ x n, xs = [x] ∧ LenV K x H n ∧ Q (.int n) H
theorem cj_lenA {ds : List D} : CJ K (rLenA K) [.lst ds] (.int (ds.length : Nat)) := .mk fun xs G H Q hx s q => by
  cases hx with
  | cons h r =>
    cases r
    cases h with
    | @lst p ys _ ha hl => exact ⟨_, _, rfl, .inl ⟨ys, .inl (.inl (s _ _ ha)), rfl⟩, q _ G H (Gd.refl s) (by rw [hl.len]; exact .int _)⟩
theorem cj_lenAS {z : Str} (hz : z.length ≤ 1000000) : CJ K (rLenA K) [.str z] (.int (z.length : Nat)) := .mk fun xs G H Q hx s q => by
  cases hx with
  | cons h r =>
    cases r
    cases h
    exact ⟨_, _, rfl, ⟨Nat.le_trans hz (by decide), rfl⟩, q _ G H (Gd.refl s) (.int _)⟩
theorem cal_of {P : Program} {w : World} {mg : Str → Option Value} {base : Heap} {k : Nat} {f : Addr} {fd : FuncData} {ps : List Str} {sp : Sp} {x : Str} (G : FnOk P w K mg base CX0 k f fd ps sp) (hm : mg x = some (.ref f)) (kp : PySem.W.keepIn K (.ref f) = true) (b : Binds K fd ps []) : C8.Cal P w K mg base k x sp [] :=
  ⟨f, fd, ps, [], G, hm, kp, b, .nil⟩
theorem Gd.potUpd {a : Addr} {G H : Hp} {o : HO} (h : Same G H) (n : G a = none) : Gd (some a) G H G (L2.upd H a o) :=
  ⟨fun b u z e => by rw [upd_ne (fun y => z (by rw [y]))]; exact e, Same.refl _, fun b u e => by rw [upd_ne (ne_of_none e n)]; exact h b u e, fun b e => .inl e⟩
theorem atI_of {α : Type} {xs : List α} {z : Int} {j : Nat} {v : α} (e : z = (j : Int)) (h : xs[j]? = some v) : atI xs z = some v := by
  rw [e]; exact atI_nat h
theorem asg_int {σ : L2.St} {H : Hp} {DD : Ends} (hu : ∀ (z : Int) (H1 : Hp), Same H H1 → u DD (σ.set i (some (.int z))) H1) (ht : ∀ Q : VK, (∀ (z : Int) (H1 : Hp), Same H H1 → Q (.int z) H1) → te σ H Q) : tSeq (tAsg te (gName i)) u DD σ H := ht _ fun z H1 s => hu z H1 s
theorem ej_ex (h : ED ρ K te δ d) (hp : P d) : EJ ρ K te δ 0 P := h.mono (Nat.le_refl _) fun x e => by subst e; exact hp
theorem cutV_map {α : Type} (f : α → V) (ns : List α) (lo hi : Option Int) : cutV (ns.map f) lo hi = ((ns.drop (HT.sIx ns.length 0 lo)).take (HT.sIx ns.length ns.length hi - HT.sIx ns.length 0 lo)).map f := by
  unfold cutV
  rw [List.length_map, List.map_take, List.map_drop]
end
end DN

/-! ground 5: defs that are run where no repr is under way; repr of data -/
namespace DN
open PySem PySem.Spec PyProof.Rows L2

/-- no repr of a list, tuple, dict is under way -/
abbrev Still (A : Around) : Prop := A.guards = some []
/-- a def's promise where no repr is under way -/
structure FnG (P : Program) (w : World) (K : PySem.W.Frag) (mg : Str → Option Value) (base : Heap) (CX : CXT) (k : Nat) (f : Addr) (fd : FuncData) (ps : List Str) (sp : Sp) : Prop where
  len : ∀ vs H Q E, sp vs H Q E → vs.length = ps.length
  go : ∀ (A : Around) (outer : List Env) (s : Shared) (H : Hp) (args : Args) (us : List Value) (vs : List V) (Q : VK) (E : XK), Still A → Room k A → Env0 P w K mg base A outer s H → BindsTo s fd args (ps.zip us) → Vals vs us → sp vs H Q E →
    codeAny (model P w) A (.call (.ref f) args)
      (CR CX outer P w H s Q E) s
theorem FnG.of {P : Program} {w : World} {K : PySem.W.Frag} {mg : Str → Option Value} {base : Heap} {CX : CXT} {k : Nat} {f : Addr} {fd : FuncData} {ps : List Str} {sp : Sp} (F : FnOk P w K mg base CX k f fd ps sp) : FnG P w K mg base CX k f fd ps sp :=
  ⟨F.len, fun A outer s H args us vs Q E _ hr e b v h => F.run A outer s H args us vs Q E hr e b v h⟩
section
variable {P : Program} {w : World} {K : PySem.W.Frag} {mg : Str → Option Value} {base : Heap} {CX : CXT}
/-- a def's promise by its body, where no repr is under way -/
theorem FnG.mk_ {x qual : Str} {st : Stmt} {f : Addr} {fd : FuncData} {N ps : List Str} {k : Nat} {sp : Sp} (F : Fun K x qual st f fd) (S : FnScope N ps (defScope st)) (len : ∀ vs H Q E, sp vs H Q E → vs.length = ps.length)
    (body : ∀ (cdv : Value) (A : Around) (outer : List Env) (s : Shared) (H : Hp) (vs : List V) (Q : VK) (E : XK), Still (A.deeper (envOfC qual (defScope st) s.heap.objs.size f cdv)) → Room k (A.deeper (envOfC qual (defScope st) s.heap.objs.size f cdv)) → sp vs H Q E →
      ∃ t, PSs (cxOf CX P w K mg base N qual (defScope st) f cdv A outer s H E).nox (defBody st) t ∧ t { nx := fun _ H' => Q .non H', rt := Q } (L2.start N vs) H) : FnG P w K mg base CX (k + 1) f fd ps sp := by
  obtain ⟨oc, od, kV, doc, pm, an, cdv, ct, osl, e, look, code⟩ := F.ex
  subst e
  refine { len := len, go := ?_ }
  intro A outer s H args us vs Q E still room e0 bind rel hs
  have n1 : vs.length = ps.length := len _ _ _ _ hs
  have inK : K.In s.heap :=
    e0.mod.kin.keeps fun b o z => (e0.bs b o z).1
  have noLim : s.heap.NoLimit :=
    e0.mod.nolimit.keeps fun b o z => (e0.bs b o z).1
  refine codeAny_call_function room.depth (inK _ _ look) rfl S.co S.gen rfl
    (PySem.W.codeRec_of inK code) (bind _ _ _ _ ?_)
  refine wpAny_newFunctionEnv_cells S.kind (fun p hp => ?_) fun env hEnv s1 st1 => ?_
  · rcases S.par p.1 (List.of_mem_zip (a := p.1) (b := p.2) hp).1 with y | y
    · exact Or.inl y
    · exact Or.inr ⟨y, PySem.W.cellsFrom_some _ _ _ (Or.inl y)⟩
  · subst hEnv
    refine ⟨noLim.keeps st1.toInCall.keep, codeAny_func ?_⟩
    obtain ⟨t, der, rd⟩ := body cdv A outer s H vs Q E still (room.deeper _) hs
    have inv0 := inv_start (CX := CX) (E := E) S room.hd e0 n1 rel st1
    refine wpAny_mono (der.nox.run [] s1 (L2.start N vs) H _ inv0 rd) ?_ (fun _ _ z => z)
    intro fl s' h
    match fl, h with
    | .ret u, ⟨v, _, H', J, rv, q⟩ => exact (⟨v, H', J.os, J.bare, J.base, J.hok, rv, q⟩ : CE outer P w H s Q u s')
    | .next, ⟨_, H', J, q⟩ => exact (⟨V.non, H', J.os, J.bare, J.base, J.hok, rfl, q⟩ : CE outer P w H s Q Value.none s')
    | .brk, ⟨_, _, _, q⟩ => exact absurd q (fun z => z)
    | .cont, ⟨_, _, _, q⟩ => exact absurd q (fun z => z)
end
section
variable {X : Cx} {CX : CXT} {k : Nat} {f : Addr} {fd : FuncData} {ps : List Str} {sp : Sp} {E : XK} {x : Str} {e : Expr} {es : List Expr} {p pos : Pos} {t : TA}
theorem pe_callG (F : FnG X.prog X.w X.K X.mg X.base CX k f fd ps sp) (hs : Still X.A) (room : Room k X.A) (hg : Gl X x) (hm : X.mg x = some (.ref f)) (kp : PySem.W.keepIn X.K (.ref f) = true) (b : Binds X.K fd ps []) (hx : Passes CX X E) (ha : PA X (e :: es) t)
    (hdb : (x == ("__debug__" : Str)) = false := by decide) (h1 : starEach (e :: es) X.env = (false, eval e X.env) :: starEach es X.env := by rfl) (h2 : (backTo pos (starEach es X.env)).any (·.1) = false := by rfl) : PE X (.Call (.Name x p) (e :: es) [] pos) (tCall sp [] E t) := by
  constructor
  intro pins s σ H Q I h
  refine wpAny_Call_Name_kw (ld_glob I hg hm ?_ hdb)
  refine PySem.W.callWith_K (h₀ := X.base) I.ok.mod.kin kp
    (thn (ha.run pos pins s σ H _ I h) fun us s1 ⟨vs, H1, I1, r, q⟩ => ⟨I1.kIn, ?_⟩) h1 h2
  have q' : sp vs H1 Q E := by
    have z : sp (vs ++ []) H1 Q E := q
    rwa [List.append_nil] at z
  have n1 : us.length = ps.length := by
    rw [← Paired.length r, F.len _ _ _ _ q']
  have bt := b s1 us I1.kIn (by rw [List.append_nil]; exact n1)
  rw [List.append_nil] at bt
  refine wpAny_call (codeAny_mono (F.go X.A X.stack s1 H1 ⟨us, []⟩ us vs Q E hs room I1.env0 bt r q') ?_)
  intro r2 s' z
  match r2, z with
  | .error er, z => exact hx pins σ H1 s1 er s' I1 z
  | .ok (.ret u), z => exact I1.after z
  | .ok .next, z => exact absurd z (fun q => q)
  | .ok .brk, z => exact absurd z (fun q => q)
  | .ok .cont, z => exact absurd z (fun q => q)
end
/-- a def of the module, by its name -/
structure CalG (P : Program) (w : World) (K : PySem.W.Frag) (mg : Str → Option Value) (base : Heap) (CX : CXT) (k : Nat) (x : Str) (sp : Sp) : Prop where
  ex : ∃ (f : Addr) (fd : FuncData) (ps : List Str), FnG P w K mg base CX k f fd ps sp ∧ mg x = some (.ref f) ∧ PySem.W.keepIn K (.ref f) = true ∧ Binds K fd ps []
theorem pe_g {X : Cx} {CX : CXT} {k j : Nat} {sp : Sp} {E : XK} {x : Str} {e : Expr} {es : List Expr} {p pos : Pos} {t : TA} (c : CalG X.prog X.w X.K X.mg X.base CX k x sp) (hs : Still X.A) (room : Room j X.A) (hk : k ≤ j) (hx : Passes CX X E) (hg : Gl X x) (ha : PA X (e :: es) t)
    (hdb : (x == ("__debug__" : Str)) = false := by decide) (h1 : starEach (e :: es) X.env = (false, eval e X.env) :: starEach es X.env := by rfl) (h2 : (backTo pos (starEach es X.env)).any (·.1) = false := by rfl) : PE X (.Call (.Name x p) (e :: es) [] pos) (tCall sp [] E t) := by
  obtain ⟨f, fd, ps, F, hm, kp, b⟩ := c.ex
  exact pe_callG F hs (room.mono hk) hg hm kp b hx ha hdb h1 h2

/-! ### the law's own call -/
section
variable {P : Program} {w : World} {K : PySem.W.Frag} {mg mb : Str → Option Value} {k : Nat} {fa a : Addr} {fd : FuncData} {x : Str} {sp : Sp} {s₁ : Shared} {vs : List Value} {ns : List Int}
/-- what is wanted of the law's call -/
abbrev Told (s₁ : Shared) : Result → Shared → Prop := fun r s' => r = .ok (.ret (.bool true)) ∧ OldK s₁.heap s'.heap ∧ s'.os = s₁.os ∧ AllBare s'.gens
theorem law_from (H : Hp) (F : ∀ base : Heap, K.In base → base.Ns mainGlobals mg → FnG P w K mg base CX0 k fa fd [x] sp) (bind : ∀ (s : Shared) (u : Value), BindsTo s fd ⟨[u], []⟩ [(x, u)]) (room : Room k callerA)
    (inK : K.In s₁.heap) (nsG : s₁.heap.Ns mainGlobals mg) (nsB : s₁.heap.Ns builtinsNs mb) (bb : ∀ x : Str, x ≠ "__name__" → mb x = bootBuiltins x) (lim : s₁.heap.NoLimit) (gens : s₁.gens = #[])
    (only : ∀ b, H b = none ∨ ∃ o xs, H b = some (.frz o (.lst xs))) (hok : HOk P w H s₁.heap) (dicts : ∀ b o es ep, s₁.heap.get? b = some o → o.data = .dict es ep → H b = none) (offK : ∀ b o, K.lookup b = some o → H b = none)
    (hs : sp [.ref a] H (fun v _ => v = .bl true) (fun _ _ _ => False)) : codeAny (model P w) callerA (.call (.ref fa) ⟨[.ref a], []⟩) (Told s₁) s₁ := by
  have keepNs : ∀ {b : Addr} {m : Str → Option Value}, s₁.heap.Ns b m → (hidT s₁.heap H).Ns b m := by
    rintro b m ⟨o, es, ep, e, d, r⟩
    exact ⟨o, es, ep, hidT_get e (dicts b o es ep e d), d, r⟩
  have inB : K.In (hidT s₁.heap H) := fun b o e => hidT_get (inK b o e) (offK b o e)
  have mod : Mod K mg (hidT s₁.heap H) := by
    obtain ⟨mc, c1, c2⟩ := lim
    exact ⟨inB, keepNs nsG, ⟨mb, keepNs nsB, bb⟩, ⟨mc, keepNs c1, c2⟩⟩
  have e0 : Env0 P w K mg (hidT s₁.heap H) callerA [] s₁ H :=
    { frames := rfl, mod := mod, bs := fun b o e => of_hidT e, bsz := Nat.le_of_eq (hidT_size _ _), funs := trivial, frf := fun b hb => (List.not_mem_nil hb).elim, hok := hok, bare := .of_eq gens }
  have run := (F _ inB (keepNs nsG)).go callerA [] s₁ H ⟨[.ref a], []⟩ [.ref a] [.ref a] _ _ rfl room e0
    (bind s₁ (.ref a)) (.cons rfl .nil) hs
  refine codeAny_mono run fun r s' z => ?_
  match r, z with
  | .error e, z => exact absurd z (fun q => q)
  | .ok .next, z => exact absurd z (fun q => q)
  | .ok .brk, z => exact absurd z (fun q => q)
  | .ok .cont, z => exact absurd z (fun q => q)
  | .ok (.ret u), ⟨v, H', os, bare, un, ok', rel, q⟩ =>
    have ev : v = .bl true := q
    subst ev
    have eu : u = Value.bool true := rel
    subst eu
    refine ⟨rfl, .of_keep fun b o e => ?_, os, bare⟩
    rcases only b with n | ⟨ob, xs, n⟩
    · exact un.keep b o e n List.not_mem_nil List.not_mem_nil
    · obtain ⟨z1, _⟩ := hok b _ n
      obtain ⟨z2, _⟩ := ok' b _ (un.frzs b ob _ n)
      rw [e] at z1
      rw [z1]
      exact z2
theorem law_goG (F : ∀ base : Heap, K.In base → base.Ns mainGlobals mg → FnG P w K mg base CX0 k fa fd [x] sp) (bind : ∀ (s : Shared) (u : Value), BindsTo s fd ⟨[u], []⟩ [(x, u)]) (room : Room k callerA)
    (inK : K.In s₁.heap) (nsG : s₁.heap.Ns mainGlobals mg) (nsB : s₁.heap.Ns builtinsNs mb) (bb : ∀ x : Str, x ≠ "__name__" → mb x = bootBuiltins x) (lim : s₁.heap.NoLimit) (gens : s₁.gens = #[])
    (ha : s₁.heap.get? a = some { cls := .type "list", data := .seq vs.toArray }) (hi : IntsAre vs ns) (hl : ns.length ≤ sizeLine)
    (hsp : ∀ H : Hp, SqL K H a (ns.map V.int) → sp [.ref a] H (fun v _ => v = .bl true) fun _ _ _ => False) : codeAny (model P w) callerA (.call (.ref fa) ⟨[.ref a], []⟩) (Told s₁) s₁ := by
  have rv := vals_ints hi
  have ln : vs.length = ns.length := hi.length
  by_cases hk : ∃ o, K.lookup a = some o
  · obtain ⟨o, ho⟩ := hk
    have e := inK a o ho
    rw [ha] at e
    have e2 := Option.some.inj e
    subst e2
    refine law_from (fun _ => none) F bind room inK nsG nsB bb lim gens (fun _ => .inl rfl) (fun _ _ z => nomatch z) (fun _ _ _ _ _ _ => rfl) (fun _ _ _ => rfl) (hsp _ (.inr ?_))
    exact ⟨_, vs.toArray, _, ho, rfl, rfl, rfl, by rw [List.size_toArray, ln]; exact hl, by simpa using rv⟩
  · have hk' : K.lookup a = none := by
      cases z : K.lookup a with
      | none => rfl
      | some o => exact absurd ⟨o, z⟩ hk
    let H : Hp := upd (fun _ => none) a (.frz { cls := .type "list", data := .seq vs.toArray } (.lst (ns.map V.int)))
    have Ha : H a = some (.frz { cls := .type "list", data := .seq vs.toArray } (.lst (ns.map V.int))) := upd_same
    have Hn : ∀ b, b ≠ a → H b = none := fun b n => upd_ne n
    refine law_from H F bind room inK nsG nsB bb lim gens (fun b => ?_) (fun b u z => ?_) (fun b o es ep e d => ?_) (fun b o e => ?_) (hsp H (.inl (.inr ⟨_, Ha⟩)))
    · by_cases n : b = a
      · subst n; exact .inr ⟨_, _, Ha⟩
      · exact .inl (Hn b n)
    · by_cases n : b = a
      · subst n
        rw [Ha] at z
        cases z
        exact ⟨ha, by rw [List.length_map]; exact hl, vs, _, rv, ha⟩
      · rw [Hn b n] at z; cases z
    · by_cases n : b = a
      · subst n
        rw [ha] at e
        cases e
        cases d
      · exact Hn b n
    · by_cases n : b = a
      · subst n
        rw [hk'] at e; cases e
      · exact Hn b n
end
/-- the goal that the head leaves, from the law's promise -/
theorem walkG {l : PySem.W.OpenLaw} {n k : Nat} {q : Program} {loose : List Str} {XP : (Str → Option Value) → Heap → Prop} {YP : World → Heap → Prop} {d : DefRec} {KK : Params → PySem.W.Frag} {sp : World → Sp} {x : Str}
    (hn : l.most = some n) (hn2 : n ≤ sizeLine) (hdf : d.params.defaults = []) (hr : Room k callerA) (hY : ∀ (w : World) (h : Heap), YP w h → (KK w.params).In h)
    (F : ∀ (w : World) (mg : Str → Option Value) (fa : Addr) (h : Heap), (KK w.params).In h → h.Ns mainGlobals mg → mg d.name = some (.ref fa) →
      ∃ fd : FuncData, (∀ (s : Shared) (u : Value), BindsTo s fd ⟨[u], []⟩ [(x, u)]) ∧ ∀ base : Heap, (KK w.params).In base → base.Ns mainGlobals mg → FnG l.prog w (KK w.params) mg base CX0 k fa fd [x] (sp w))
    (hsp : ∀ (w : World) (H : Hp) (a : Addr) (ns : List Int), ns.length ≤ n → SqL (KK w.params) H a (ns.map V.int) → sp w [.ref a] H (fun v _ => v = .bl true) fun _ _ _ => False) :
    PySem.W.WalkO q loose XP YP l.row.toRowW d [] (fun f vs => PySem.call f vs) := by
  refine Att.attach_call hn hdf ?_
  intro w s₀ s₁ mg mb fa o pm cd doc a vs ns G Y ho hd hcd hmg hobj hints hlen hg
  obtain ⟨fd, hb, hF⟩ := F w mg fa _ (hY w _ Y) G.T.g hmg
  exact law_goG hF hb hr (hY w _ Y) G.T.g G.T.b G.T.builtins G.T.nolimit hg hobj hints (Nat.le_trans hlen hn2) (fun H hS => hsp w H a ns hlen hS)
end DN

/-! ground 6: repr of data -/
namespace DN
open PySem PySem.Spec PyProof.Rows L2

def pyKey : Key → PyData
  | .inl i => .int i
  | .inr s => .str s
mutual
def py : D → PyData
  | .non => .none
  | .bl b => .bool b
  | .int i => .int i
  | .str s => .str s
  | .tup l => .tuple (pyL l)
  | .lst l => .list (pyL l)
  | .dct l => .dict (pyK l)
  | .ins _ _ => .none
  | .exc _ _ => .none
  | .opq _ => .none
  | .scr _ => .none
def pyL : List D → List PyData
  | [] => []
  | d :: r => py d :: pyL r
def pyK : List (Key × D) → List (PyData × PyData)
  | [] => []
  | (k, d) :: r => (pyKey k, py d) :: pyK r
end
mutual
/-- data alone, and lists in no dict -/
def plainD : D → Bool
  | .tup l => plainL l
  | .lst l => plainL l
  | .dct l => plainK l
  | .ins _ _ => false
  | .exc _ _ => false
  | .opq _ => false
  | .scr _ => false
  | _ => true
def plainL : List D → Bool
  | [] => true
  | d :: r => plainD d && plainL r
def plainK : List (Key × D) → Bool
  | [] => true
  | (_, d) :: r => plainD d && plainK r
end
mutual
def listFree : D → Bool
  | .tup l => listFreeL l
  | .lst _ => false
  | .dct l => listFreeK l
  | _ => true
def listFreeL : List D → Bool
  | [] => true
  | d :: r => listFree d && listFreeL r
def listFreeK : List (Key × D) → Bool
  | [] => true
  | (_, d) :: r => listFree d && listFreeK r
end
theorem pyK_keys : ∀ l : List (Key × D), (pyK l).map (·.1) = l.map fun p => pyKey p.1
  | [] => rfl
  | (k, d) :: r => by simp [pyK, pyK_keys r]
theorem pyK_vals : ∀ l : List (Key × D), (pyK l).map (·.2) = l.map fun p => py p.2
  | [] => rfl
  | (k, d) :: r => by simp [pyK, pyK_vals r]

section
variable {X : Cx} {pins : List (Addr × Obj)} {σ : L2.St} {H : Hp} {s : Shared}
abbrev RdV (h : Heap) (u : Value) (d : D) : Prop := ∃ as, Reads h u (py d) as ∧ (listFree d = true → sysModules ∉ as)
theorem at_reads (I : Inv X pins σ H s) {v : V} {d : D} (h : At X.K H v d) : plainD d = true → ∀ u, RelV v u → RdV s.heap u d :=
  At.rec (motive_1 := fun v d _ => plainD d = true → ∀ u, RelV v u → RdV s.heap u d)
    (motive_2 := fun vs ds _ => plainL ds = true → ∀ us, Vals vs us → ∃ as, ReadsAll s.heap us (pyL ds) as ∧ (listFreeL ds = true → sysModules ∉ as))
    (motive_3 := fun vs ds _ => plainK ds = true → ∀ (es : List DictEntry) (ws : List (Key × Value)), KV vs ws → Pairs (mixKind X.prog X.w) es ws → ∃ as bs, ReadsAll s.heap (es.map (·.key)) ((pyK ds).map (·.1)) as ∧ as = [] ∧ ReadsAll s.heap (es.map (·.val)) ((pyK ds).map (·.2)) bs ∧ (listFreeK ds = true → sysModules ∉ bs))
    (motive_4 := fun _ _ _ => True)
    (fun _ u r => by cases r; exact ⟨[], .none, fun _ => List.not_mem_nil⟩)
    (fun b _ u r => by cases r; exact ⟨[], .bool b, fun _ => List.not_mem_nil⟩)
    (fun i _ u r => by obtain ⟨t, rfl⟩ := r; exact ⟨[], .int i t, fun _ => List.not_mem_nil⟩)
    (fun x _ u r => by obtain ⟨t, rfl⟩ := r; exact ⟨[], .str x t, fun _ => List.not_mem_nil⟩)
    (fun {a xs ds} hs _ ih hp u r => by
      cases r
      obtain ⟨its, rv, ⟨o, ho, hc, n, hd⟩, _⟩ := I.tuple hs
      obtain ⟨as, hr, hl⟩ := ih (by simpa [plainD] using hp) its rv
      exact ⟨as, by simpa [py] using Reads.tuple ho hc hd hr, fun q => hl (by simpa [listFree] using q)⟩)
    (fun {a xs ds} hs _ ih hp u r => by
      cases r
      obtain ⟨its, rv, ⟨o, n, ho, hc, _, hd⟩, _⟩ := I.list (.inl (.inl hs))
      obtain ⟨as, hr, _⟩ := ih (by simpa [plainD] using hp) its rv
      exact ⟨a :: as, by simpa [py] using Reads.list ho hc hd hr, fun q => by simp [listFree] at q⟩)
    (fun {a kvs es} hs _ ih hp u r => by
      cases r
      obtain ⟨_, hsys, ws, kv, o, ents, ep, ho, ex, hd, _, pr, _⟩ := I.hok a _ hs
      obtain ⟨as, bs, h1, e1, h2, h3⟩ := ih (by simpa [plainD] using hp) ents.toList ws kv pr
      subst e1
      refine ⟨a :: [] ++ bs, by simpa [py] using Reads.dict ho ex.1 hd h1 h2, fun q => ?_⟩
      have n1 : sysModules ≠ a := fun z => by
        rw [← z] at hsys
        simp at hsys
      have n2 := h3 (by simpa [listFree] using q)
      simp only [List.cons_append, List.nil_append, List.mem_cons, not_or]
      exact ⟨n1, n2⟩)
    (fun {a C dx fs es} _ _ _ hp => by simp [plainD] at hp)
    (fun {a C dx v d} _ _ _ _ hp => by simp [plainD] at hp)
    (fun v hp => by simp [plainD] at hp)
    (fun {a ns} _ hp => by simp [plainD] at hp)
    (fun _ us r => by cases r; exact ⟨[], .nil, fun _ => List.not_mem_nil⟩)
    (fun {v vs d ds} _ _ i1 i2 hp us r => by
      have hp' : plainD d = true ∧ plainL ds = true := by simpa [plainL] using hp
      cases r with
      | cons r1 r2 =>
        obtain ⟨as, h1, l1⟩ := i1 hp'.1 _ r1
        obtain ⟨bs, h2, l2⟩ := i2 hp'.2 _ r2
        refine ⟨as ++ bs, .cons h1 h2, fun q => ?_⟩
        have q' : listFree d = true ∧ listFreeL ds = true := by simpa [listFreeL] using q
        rw [List.mem_append]
        exact fun z => z.elim (l1 q'.1) (l2 q'.2))
    (fun _ es ws kv pr => by
      cases kv
      cases pr
      exact ⟨[], [], .nil, rfl, .nil, fun _ => List.not_mem_nil⟩)
    (fun {k v vs d ds} _ _ i1 i2 hp es ws kv pr => by
      have hp' : plainD d = true ∧ plainK ds = true := by simpa [plainK] using hp
      cases kv with
      | @cons _ q _ _ r1 r2 =>
        cases pr with
        | @cons e kw es kws p1 p2 p3 =>
          obtain ⟨as, bs, h1, e1, h2, l2⟩ := i2 hp'.2 _ _ r2 p3
          subst e1
          obtain ⟨cs, h3, l3⟩ := i1 hp'.1 _ r1.2
          rw [← p2] at h3
          have ek : q.1 = k := r1.1.symm
          rw [ek] at p1
          refine ⟨[] ++ [], cs ++ bs, ?_, rfl, .cons h3 h2, fun z => ?_⟩
          · refine .cons ?_ h1
            rcases keyIs_shape (k := k) (v := e.key) p1 with ⟨i, t, rfl, e2⟩ | ⟨x, t, rfl, e2⟩
            · show Reads s.heap e.key (.int i) []
              rw [e2]; exact .int i t
            · show Reads s.heap e.key (.str x) []
              rw [e2]; exact .str x t
          · have z' : listFree d = true ∧ listFreeK ds = true := by simpa [listFreeK] using z
            rw [List.mem_append]
            exact fun y => y.elim (l3 z'.1) (l2 z'.2))
    trivial (fun _ _ _ _ => trivial) h
end

/-- what repr tells of a datum -/
def showD (d : D) : Str := (py d).shown
/-- repr of such data is told -/
structure ShowOk (d : D) : Prop where
  plain : plainD d = true
  nums : (py d).showable = true
  dicts : (py d).hasDict = true → listFree d = true
  deep : (py d).depth ≤ 60
  size : (showD d).length ≤ sizeLine
def rRepr (K : PySem.W.Frag) : List V → Hp → VK → Prop := fun xs H Q => ∃ x d, xs = [x] ∧ At K H x d ∧ ShowOk d ∧ Q (.str (showD d)) H
theorem call_repr {X : Cx} (hs : Still X.A) (hu : X.A.units + 64 < cLine) : CallR X (.builtin "repr") (rRepr X.K) := by
  intro pins s σ H xs us Q I r h
  obtain ⟨x, d, rfl, hx, ok, q⟩ := h
  obtain ⟨u, rfl, ru⟩ := vals1 r
  obtain ⟨as, rd, hl⟩ := at_reads I hx ok.plain u ru
  have hsz := ok.size
  have hd := ok.deep
  unfold showD at hsz q
  have fin : ∀ (h' : Heap) (t : Tok) (tk : Nat), (∀ b o, s.heap.get? b = some o → h'.get? b = some o) → EP X pins σ Q (.str (py d).shown t) { s with heap := h', toks := tk } :=
    fun h' t tk hk => ⟨.str _, H, I.kept hk, ⟨t, rfl⟩, q⟩
  cases hp : py d with
  | none =>
    rw [hp] at rd fin
    cases rd
    exact PySem.P.repr_of_none (fin _ _ _ fun _ _ e => e)
  | bool b =>
    rw [hp] at rd fin
    cases rd
    exact PySem.P.repr_of_bool (fin _ _ _ fun _ _ e => e)
  | int i =>
    have hi := ok.nums
    rw [hp] at rd fin hi
    cases rd
    exact PySem.P.repr_of_int (by simpa [PyData.showable] using hi) (fin _ _ _ fun _ _ e => e)
  | str z =>
    rw [hp] at rd fin hsz
    cases rd
    exact PySem.P.repr_of_str (fin _ _ _ fun _ _ e => e) (by simpa [PyData.shown] using hsz)
  | list l =>
    rw [hp] at rd fin hsz hd
    obtain ⟨a, rfl⟩ := isRef_of_reads rd rfl
    exact repr_of_reads' rd (by rw [← hp]; exact ok.nums) (fun z => hl (ok.dicts (by rw [hp]; exact z))) hs (by omega) (fun _ _ e => e) (fun h' t tk hk => fin h' t tk hk) hsz
  | tuple l =>
    rw [hp] at rd fin hsz hd
    obtain ⟨a, rfl⟩ := isRef_of_reads rd rfl
    exact repr_of_reads' rd (by rw [← hp]; exact ok.nums) (fun z => hl (ok.dicts (by rw [hp]; exact z))) hs (by omega) (fun _ _ e => e) (fun h' t tk hk => fin h' t tk hk) hsz
  | dict l =>
    rw [hp] at rd fin hsz hd
    cases rd with
    | dict h1 h2 h3 h4 h5 =>
      exact repr_of_reads' (.dict h1 h2 h3 h4 h5) (by rw [← hp]; exact ok.nums) (fun z => hl (ok.dicts (by rw [hp]; exact z))) hs (by omega) (fun _ _ e => e) (fun h' t tk hk => fin h' t tk hk) hsz
theorem cj_repr {K : PySem.W.Frag} {d : D} (ok : ShowOk d) : CJ K (rRepr K) [d] (.str (showD d)) := .mk fun xs G H Q hx s q => by
  cases hx with
  | cons h r =>
    cases r
    exact ⟨_, d, rfl, h.mono s, ok, q _ G H (Gd.refl s) (.str _)⟩
end DN

/-! ground 7: errors as values -/
namespace DN
section
open PySem PySem.W PySem.Spec PySem.Calls PyProof.Rows
variable {prog : Program} {w : World} {A : Around} {E : Value → Shared → Prop} {s : Shared} {K : Frag} {x D : Addr} {ox : Obj} {od : Option Obj}
theorem find_data {C : Addr} {name : Str} {a g : Value} (hc : (clsIn K C).isSome = true) (ha : findIn K (.ref C) name = some (some a)) (hg : specialIn K a "__get__" = some (some g)) (ht : takesIn K a = some true) : findObj K C od name = some (.bind g a) := by
  obtain ⟨cd, hcd⟩ := Option.isSome_iff_exists.mp hc
  simp [findObj, hcd, ha, hg, ht]
/-- e.__class__ of an error, with its own dict or without -/
theorem class_of_err {Q : Option Value → Shared → Prop} (F : L2.ExcC K D) (X : K.In s.heap) (I : InstAt s.heap x ox D od)
    (h : Q (some (.ref D)) { s with toks := s.toks + 1 }) : wpAny (model prog w) A (getAttr? (.ref x) "__class__") Q E s := by
  have fnd : findObj K D od "__class__" = some (.bind (.builtin "getset_descriptor.__get__") (.builtin "object.__class__")) :=
    find_data (by obtain ⟨cd, hc, _⟩ := any_some F.hd; rw [hc]; rfl) F.ha F.hn F.ht
  obtain ⟨hh, gg, dd, tt, oo⟩ := s
  have k0 := I.type (M := model prog w); have k1 := looks_findIn (M := model prog w) X F.hg
  have k2 := looks_findIn (M := model prog w) X F.hk; have k3 := looks_find (M := model prog w) X I fnd
  have isB : Looks (model prog w) hh (isInstance (.ref x) (.type "BaseException")) true :=
    k0.andThen (looks_subIn X F.hs)
  have b0 : (false && onTheHeap (Value.builtin "BaseException.__getattribute__")) = false := rfl
  have b2 : (Value.builtin "BaseException.__getattribute__" == Value.builtin "object.__getattribute__") = false := by
    decide +kernel
  have b1 : (onTheHeap (Value.ref D) && Value.builtin "BaseException.__getattribute__" == Value.builtin "object.__getattribute__") = false := by
    rw [b2]; rfl
  unfold getAttr? getAttrBy? getAttrBy
  refine wpAny_bind (wpAny_mkText (wpAny_bind (wpAny_attempt (wpAny_holding
    (wpAny_bind (k0.at (wpAny_bind (k1.at ?_))))))))
  show wpAny _ _ (if (onTheHeap (Value.ref D) && Value.builtin "BaseException.__getattribute__" == Value.builtin "object.__getattribute__") = true then _ else _) _ _
    _
  rw [b1, if_neg Bool.false_ne_true]
  unfold getAttrByItsOwn hookBefore
  refine wpAny_bind ?_
  rw [if_pos (show onTheHeap (Value.ref D) = true
    from rfl)]
  refine k2.at ?_
  refine wpAny_bind (wpAny_attempt
    (wpAny_holding ?_))
  unfold callGetattribute
  rw [b0, if_neg Bool.false_ne_true]
  unfold boundAndCalled
  rw [PySem.F.excAttr_ValueError.ga.bind
    (.ref x)]
  refine wpAny_bind (wpAny_pure ?_)
  show wpAny _ _ (call (.builtin "BaseException.__getattribute__")
    [.ref x, .str "__class__" tt]) _ _ _
  refine wpAny_call (codeAny_call_builtin PySem.F.excAttr_ValueError.ga.plain
    PySem.F.entry_bexc_ga ?_)
  refine @check_slot (model prog w) _ _ ⟨hh, gg, dd, tt + 1, oo⟩ "BaseException.__getattribute__" "BaseException" "__getattribute__"
    (.ref x) [.str "__class__" tt] [] _ (by decide +kernel) (by decide +kernel) isB (PySem.F.args_bexc_ga (.ref x) (.str "__class__" tt)) ?_
  unfold Builtin.«object.__getattribute__»
  refine wpAny_bind (wpAny_of_eq (a := ((Value.ref x : Value), [Value.str "__class__" tt]))
    (by first | rfl | (simp only [slotArgs]; rfl)) ?_)
  refine wpAny_bind (wpAny_pure (wpAny_bind
    (k0.at (wpAny_bind (k3.at ?_)))))
  show wpAny _ _ (holding [Value.builtin "object.__class__"]
    (call (.builtin "getset_descriptor.__get__") [.builtin "object.__class__", .ref x, .ref D]) >>= ret) _ _ _
  refine wpAny_bind (wpAny_holding (wpAny_call
    (class_get (s := ⟨hh, gg, dd, tt + 1, oo⟩) (ox := ox) (od := od) X I F.hm ?_)))
  refine wpAny_pure ?_
  show wpAny _ _ (handedOut (.ref D)) _ _
    _
  rw [handedOut_of (v := .ref D)
    rfl]
  first | exact wpAny_pure (wpAny_pure h) | exact wpAny_pure h | exact wpAny_pure (wpAny_bind (wpAny_pure (wpAny_pure h)))
theorem kit_err (F : L2.ExcC K D) : KitX K (.ref x) (.ref D) (fun h => InstAt h x ox D od) := by
  obtain ⟨cdD, hcD, _⟩ := any_some F.hd
  unfold clsIn at hcD
  split at hcD
  · rename_i c' d' cd' sl' ho
    refine { ty := fun _ _ _ I => I.type, it := fun _ _ X _ => ?_, ne := fun h tp dd its n sl X htp => ?_, ca := fun X I k => class_of_err F X I k }
    · intro A' Q' E' s' k q
      unfold isType loadHead
      exact wpAny_bind
        (wpAny_loadPart (k _ _ (X _ _ ho)) (wpAny_pure q))
    · refine Bool.eq_false_iff.mpr fun q => ?_
      have e : D = tp := Value.ref.inj (beq_iff_eq.mp
        q)
      subst e
      have z := (X _ _ ho).symm.trans
        htp
      cases z
  · cases hcD
end
section
open PySem PySem.Spec PyProof.Rows L2
variable {X : Cx} {pins : List (Addr × Obj)} {σ : L2.St} {H : Hp} {s : Shared}
/-- an error with its dict, as an instance -/
theorem err_inst {a C dx : Addr} {fs : List (Str × V)} (I : Inv X pins σ H s) (ha : H a = some (exo a C (some dx))) (hd : H dx = some (exd dx fs)) :
    ∃ (ox od : Obj) (mA : Str → Option Value), PySem.W.InstAt s.heap a ox C (some od) ∧ (∀ name, PySem.W.lookIn name od = some (mA name)) ∧ ∀ f, RelO (fs.lookup f) (mA f) := by
  obtain ⟨t1, ho⟩ := exo_at I.hok ha
  obtain ⟨mA, hn, rel⟩ := exd_at I.hok hd
  obtain ⟨od, hod, lk⟩ := lookIn_ns hn
  exact ⟨_, od, mA, ⟨ho, rfl, rfl, hod⟩, lk, rel⟩
/-- isinstance(e, C) of an error -/
def rIsX (K : PySem.W.Frag) : List V → Hp → VK → Prop := fun xs H Q => ∃ (a C dx : Addr) (fs : List (Str × V)) (c : V) (cv : Value) (b : Bool), xs = [.ref a, c] ∧ ClsV c cv ∧ H a = some (exo a C (some dx)) ∧ H dx = some (exd dx fs) ∧ ExcC K C ∧ PySem.W.kitOne K (.ref C) cv = some b ∧ Q (.bl b) H
theorem call_isX : CallR X (.builtin "isinstance") (rIsX X.K) := by
  intro pins s σ H xs us Q I r h
  obtain ⟨a, C, dx, fs, c, cv, b, rfl, hc, ha, hd, F, e, q⟩ := h
  obtain ⟨u1, u2, rfl, r1, r2⟩ := vals2 r
  have e2 := hc.eq r2
  subst e2
  have e1 : u1 = .ref a := r1
  subst e1
  obtain ⟨ox, od, mA, J, _, _⟩ := err_inst I ha hd
  exact PySem.W.kia_one (kit_err (ox := ox) (od := some od) F) I.kIn J e (fun z => nomatch z) fun tk => ⟨.bl b, H, I.tok tk, rfl, q⟩
/-- e.f of an error -/
def tErr (K : PySem.W.Frag) (f : Str) (te : TE) : TE := fun σ H Q => te σ H fun x H1 => ∃ (a C dx : Addr) (fs : List (Str × V)) (v : V), x = .ref a ∧ H1 a = some (exo a C (some dx)) ∧ H1 dx = some (exd dx fs) ∧ XfC K C ∧ PySem.W.findIn K (.ref C) f = some none ∧ fs.lookup f = some v ∧ Q v H1
theorem pe_err {e : Expr} {te : TE} {pos : Pos} {f : Str} (he : PE X e te) (hb : attributeBase e f X.env (eval e X.env) = eval e X.env := by rfl) : PE X (.Attribute e f pos) (tErr X.K f te) := by
  constructor
  intro pins s σ H Q I h
  refine attr_of hb (thn (he.run pins s σ H _ I h) fun u s1 z => ?_)
  obtain ⟨x, H1, I1, rx, a, C, dx, fs, v, rfl, ha, hd, F, hno, l, q⟩ := z
  have eu : u = .ref a := rx
  subst eu
  obtain ⟨ox, od, mA, J, lk, rel⟩ := err_inst I1 ha hd
  obtain ⟨uv, hu, ru⟩ := RelO.some_of (v := v) (o := mA f) (by rw [← l]; exact rel f)
  refine HandSPX.exc_get I1.kIn J F.ga F.gg F.exC ?_ (handed_of ru) ⟨v, H1, I1.tok _, ru, q⟩
  exact PySem.W.findObj_own F.hdC hno rfl (by rw [lk, hu])
/-- X(e), as a value: a new error -/
def tExV (sp : Sp) (C : Addr) (ta : TA) : TE := fun σ H Q => ta σ H fun vs H1 => vs.length ≤ 1000 ∧ ∀ a, H1 a = none → sp (.ref a :: vs) (upd H1 a (exo a C none)) (fun v H2 => v = .non ∧ Q (.ref a) H2) fun _ _ _ => False
theorem pe_exV {e : Expr} {es : List Expr} {ta : TA} {p pos : Pos} {CX : CXT} {x : Str} {C fI : Addr} {k : Nat} {fd : FuncData} {ps : List Str} {sp : Sp} (T : OexC X.K C) (iC : PySem.W.findIn X.K (.ref C) "__init__" = some (some (.ref fI))) (tI : PySem.W.typeIn X.K (.ref fI) = some (.type "function"))
    (F1 : FnOk X.prog X.w X.K X.mg X.base CX k fI fd ps sp) (room : Room (k + 1) X.A) (b : Binds X.K fd ps []) (hx : Passes CX X (fun _ _ _ => False)) (hg : Gl X x) (hm : X.mg x = some (.ref C)) (ha : PA X (e :: es) ta)
    (hdb : (x == ("__debug__" : Str)) = false := by decide) (h1 : starEach (e :: es) X.env = (false, eval e X.env) :: starEach es X.env := by rfl) (h2 : (backTo pos (starEach es X.env)).any (·.1) = false := by rfl) : PE X (.Call (.Name x p) (e :: es) [] pos) (tExV sp C ta) := by
  constructor
  intro pins s σ H Q I h
  obtain ⟨nm, q, N, bs, bm, sn, sub, ab, col, dd, k0, k1, k2, k3, k5, lookC, good⟩ := T.cls
  refine wpAny_Call_Name_kw (ld_glob I hg hm ?_ hdb)
  refine PySem.W.callWith_K (h₀ := X.base) I.ok.mod.kin T.kC
    (thn (ha.run pos pins s σ H _ I h) fun us s1 ⟨vs, H1, I1, r1, hz, q1⟩ => ⟨I1.kIn, ?_⟩) h1 h2
  show wpAny _ _ (call (.ref C) us) _
    _ _
  obtain ⟨hp, g, dr, tk, os⟩ := s1
  have n1 : H1 (hp.objs.size + 1) = none := I1.hok.fresh (Nat.le_succ _)
  have hq := q1 (hp.objs.size + 1) n1
  have keep : ∀ b o, hp.get? b = some o → ((hp.push (PySem.W.kdv_tup us)).push (PySem.HandSPX.excO C hp.objs.size)).get? b = some o :=
    fun b o e => Heap.get?_push_of_some _ (Heap.get?_push_of_some _ e)
  have got : ((hp.push (PySem.W.kdv_tup us)).push (PySem.HandSPX.excO C hp.objs.size)).get? (hp.objs.size + 1) = some (PySem.HandSPX.excO C hp.objs.size) := by
    heap_get
  have I2 := I1.laid (t' := tk) (a := hp.objs.size + 1) (o := exo (hp.objs.size + 1) C none) (h' := (hp.push (PySem.W.kdv_tup us)).push (PySem.HandSPX.excO C hp.objs.size)) keep (Nat.le_succ _) (exo_ok got)
  have r2 : Vals (V.ref (hp.objs.size + 1) :: vs) (Value.ref (hp.objs.size + 1) :: us) := .cons rfl r1
  have ln : (Value.ref (hp.objs.size + 1) :: us).length = ps.length := by
    rw [← Paired.length r2]
    exact F1.len _ _ _ _ hq
  have small : us.length ≤ sizeLine := by
    rw [← Paired.length r1, sizeLine_eq]; omega
  have bt := b ⟨(hp.push (PySem.W.kdv_tup us)).push (PySem.HandSPX.excO C hp.objs.size), g, dr, tk, os⟩ (Value.ref (hp.objs.size + 1) :: us) I2.kIn (by rw [List.append_nil]; exact ln)
  rw [List.append_nil] at bt
  have run := F1.run _ X.stack _ _ ⟨Value.ref (hp.objs.size + 1) :: us, []⟩ (Value.ref (hp.objs.size + 1) :: us) _ _ (fun _ _ _ => False) (room.make C us []) (I2.env0.make C us []) bt r2 hq
  refine wpAny_call (PySem.HandSPX.call_own F.excBase_ValueError (fun Y => PySem.HandSPX.refsVE_contains Y bm good) (I1.kIn _ _ lookC) (PySem.W.looks_findIn I1.kIn iC)
    (fun self => PySem.W.bind_fn I1.kIn self tI) small (codeAny_mono run ?_))
  intro r s' z
  match r, z with
  | .error er, z => exact hx pins σ _ _ er s' I2 z
  | .ok .next, z => exact absurd z (fun q => q)
  | .ok .brk, z => exact absurd z (fun q => q)
  | .ok .cont, z => exact absurd z (fun q => q)
  | .ok (.ret u), z =>
    obtain ⟨v, H2, J, rv, ev, q2⟩ := I2.after z
    subst ev
    exact ⟨rv, .ref (hp.objs.size + 1), H2, J, rfl, q2⟩
end
end DN

/-! ground 8: more operations over data -/
namespace DN
open PySem PySem.Spec PyProof.Rows L2

/-! counts of flat items -/
def rCntF (K : PySem.W.Frag) : V → List V → Hp → VK → Prop := fun x xs H Q => ∃ (a : Addr) (ys : List V) (y : V), x = .ref a ∧ xs = [y] ∧ SqL K H a ys ∧ flatV y = true ∧ ys.all flatV = true ∧ Q (.int (ys.countP (fun z => eqV z y) : Nat)) H
theorem countP_eqU {y : V} {uy : Value} (ry : RelV y uy) : ∀ {ys : List V} {us : List Value}, Vals ys us → ys.all flatV = true → us.countP (eqU y) = ys.countP (fun z => eqV z y)
  | _, _, .nil, _ => rfl
  | _, _, .cons (a := z) (b := u) r rs, f => by
    rw [List.all_cons, Bool.and_eq_true] at f
    rw [List.countP_cons, List.countP_cons, countP_eqU ry rs f.2, eqU_of r f.1]
theorem mt_lcountF {X : Cx} : MtR X "list.count" (rCntF X.K) := by
  intro pins s σ H x xs v us Q I rx rxs h
  obtain ⟨a, ys, y, rfl, rfl, hs, fy, fys, q⟩ := h
  cases rx
  cases rxs with
  | cons ry rt =>
    rename_i uy ut
    cases rt
    obtain ⟨its, rv, ⟨⟨cls, dd, data, sl⟩, n, ho, hc, hdn, hd⟩, hlen⟩ := I.list hs
    simp only at hc hd
    subst hc hd
    refine call_meets PySem.F.slot_list_count ⟨_, ho, rfl⟩ PySem.F.entry_list_count (PySem.F.args_list_count_2 _ _)
      (SeqAt.list_countAt a its.toArray n dd sl uy (eqU y)) ⟨ho, fun u' hu' => mem_eqAt ry fy rv fys u' (by simpa using hu'), ?_⟩
    refine ⟨.int (ys.countP (fun z => eqV z y) : Nat), H, I.tok _, ⟨s.toks, ?_⟩, q⟩
    show Value.int ((its.toArray.toList.countP (eqU y) : Nat) : Int) s.toks = _
    rw [show its.toArray.toList = its from by simp, countP_eqU ry rv fys]

/-! one of two readings -/
theorem op_or {X : Cx} {f : Value → Value → Sem Value} {r1 r2 : R2} (h1 : OpR X f r1) (h2 : OpR X f r2) : OpR X f (fun x y H Q => r1 x y H Q ∨ r2 x y H Q) := fun pins s σ H x y v u Q I rx ry h => by
  rcases h with h | h
  · exact h1 pins s σ H x y v u Q I rx ry h
  · exact h2 pins s σ H x y v u Q I rx ry h

/-! != of equal data -/
mutual
/-- no dict in it -/
def seqD : D → Bool
  | .non => true
  | .bl _ => true
  | .int _ => true
  | .str _ => true
  | .tup l => seqL l
  | .lst l => seqL l
  | _ => false
def seqL : List D → Bool
  | [] => true
  | d :: r => seqD d && seqL r
end
theorem at_dp {K : PySem.W.Frag} {H : Hp} {v : V} {d : D} (h : At K H v d) : seqD d = true → Dp K H v (py d) :=
  At.rec (motive_1 := fun v d _ => seqD d = true → Dp K H v (py d)) (motive_2 := fun vs ds _ => seqL ds = true → DpAll K H vs (pyL ds)) (motive_3 := fun _ _ _ => True) (motive_4 := fun _ _ _ => True)
    (fun _ => .non) (fun b _ => .bl b) (fun i _ => .int i) (fun x _ => .str x)
    (fun {a xs ds} hs _ ih hp => .tup hs (ih (by simpa [seqD] using hp)))
    (fun {a xs ds} hs _ ih hp => .lst (.inl (.inl hs)) (ih (by simpa [seqD] using hp)))
    (fun _ _ _ hp => by simp [seqD] at hp) (fun _ _ _ hp => by simp [seqD] at hp) (fun _ _ _ _ hp => by simp [seqD] at hp) (fun v hp => by simp [seqD] at hp) (fun _ hp => by simp [seqD] at hp)
    (fun _ => .nil) (fun {v vs d ds} _ _ i1 i2 hp => by
      have hp' : seqD d = true ∧ seqL ds = true := by simpa [seqL] using hp
      exact .cons (i1 hp'.1) (i2 hp'.2))
    trivial (fun _ _ _ _ => trivial) trivial (fun _ _ _ _ => trivial) h
def rNeS (K : PySem.W.Frag) : R2 := fun x y H Q => rNeD K x y H Q ∨ rNeDA x y H Q
theorem op_neS {X : Cx} (hu : X.A.units + 64 < cLine) : OpR X (compareOp .NotEq) (rNeS X.K) := op_or (op_neD hu) (op_ne_dictA (by omega))
/-- a dict of flat values, each key once -/
def flatDct : D → Bool
  | .dct [] => true
  | .dct [(_, .int _)] => true
  | _ => false
structure SameOk (d : D) : Prop where
  ok : (seqD d = true ∧ SeqAt.shaped (py d) = true ∧ (py d).canLay0 = true) ∨ flatDct d = true
section
variable {ρ : Option Addr} {K : PySem.W.Frag} {E : XK} {δ δ' : Dl} {te ta tb tc : TE} {t u ts : TS} {tt tu : TT} {tA : TA} {k k1 k2 k3 : Nat} {P P1 P2 : D → Prop} {PO PO' : Out → Prop} {a b c d : D} {i j : Nat} {X : Cx}
theorem rj_neSelf (h : SameOk d) : RJ K (rNeS K) d d (.bl false) := .mk fun x y G H Q hx hy s q => by
  have ax := hx.mono s
  have ay := hy.mono s
  rcases h.ok with ⟨h1, h2, h3⟩ | h1
  · refine .inl ⟨_, _, at_dp ax h1, at_dp ay h1, h2, h2, ?_⟩
    rw [SeqAt.eqv_refl _ h3]
    exact q _ G H (Gd.refl s) (.bl _)
  · refine .inr ?_
    unfold flatDct at h1
    split at h1
    · cases ax with
      | dct ha hl =>
        cases hl
        cases ay with
        | dct hb hl =>
          cases hl
          exact ⟨_, _, _, _, rfl, rfl, ha, hb, rfl, fun p hp => by simp at hp, q _ G H (Gd.refl s) (.bl _)⟩
    · cases ax with
      | dct ha hl =>
        cases hl with
        | cons hv hl =>
          cases hl
          cases hv
          cases ay with
          | dct hb hl =>
            cases hl with
            | cons hv hl =>
              cases hl
              cases hv
              refine ⟨_, _, _, _, rfl, rfl, ha, hb, rfl, fun p hp => ?_, q _ G H (Gd.refl s) (.bl _)⟩
              rw [List.mem_singleton] at hp
              subst hp
              exact ⟨by simp [valV], rfl⟩
    · cases h1

/-! slots forgotten -/
theorem Wf.fewer {G0 H0 G H : Hp} {σ : L2.St} {m : Nat} (w : Wf ρ K G0 H0 G H σ δ m) (hl : δ'.length = δ.length) (h : ∀ (i : Nat) (s : Sl), δ'[i]? = some (some s) → δ[i]? = some (some s)) : Wf ρ K G0 H0 G H σ δ' m :=
  ⟨by rw [hl]; exact w.len, w.gd, w.pot, w.pot0, fun i s e => w.sl i s (h i s e), fun i j d e n h1 h2 => w.ap i j d e n (h _ _ h1) (h _ _ h2)⟩
inductive Fewer : Dl → Dl → Prop
  | nil : Fewer [] []
  | keep {s : Option Sl} {a b : Dl} : Fewer a b → Fewer (s :: a) (s :: b)
  | drop {s : Option Sl} {a b : Dl} : Fewer a b → Fewer (none :: a) (s :: b)
theorem Fewer.len : ∀ {a b : Dl}, Fewer a b → a.length = b.length
  | _, _, .nil => rfl
  | _, _, .keep h => congrArg (· + 1) h.len
  | _, _, .drop h => congrArg (· + 1) h.len
theorem Fewer.get : ∀ {a b : Dl}, Fewer a b → ∀ (i : Nat) (s : Sl), a[i]? = some (some s) → b[i]? = some (some s)
  | _, _, .nil, i, s, e => e
  | _, _, .keep h, 0, s, e => e
  | _, _, .drop h, 0, s, e => by simp at e
  | _, _, .keep h, i + 1, s, e => by simpa using h.get i s (by simpa using e)
  | _, _, .drop h, i + 1, s, e => by simpa using h.get i s (by simpa using e)
theorem sj_nextW (h : Fewer δ' δ) (hp : PO (.nx δ')) : SJ ρ K E tNext δ 0 PO := .mk fun G0 H0 G H σ m D w hm q => q _ hp G H σ m (w.fewer h.len h.get) (Nat.le_refl _)
theorem sj_fewer (h : Fewer δ' δ) (hs : SJ ρ K E ts δ' k PO) : SJ ρ K E ts δ k PO := .mk fun G0 H0 G H σ m D w hm q => hs.run G0 H0 G H σ m D (w.fewer h.len h.get) hm q

/-! lists of the def's own -/
theorem sj_ext {ds es : List D} (hi : δ[i]? = some (some (.own (.lst ds)))) (h : ED ρ K te δ (.lst es)) (hl : ds.length + es.length ≤ 1000000) (hn : SJ ρ K E u (δ.set i (some (.own (.lst (ds ++ es))))) k PO) :
    SJ ρ K E (tSeq (tDrop (tBM K "list" rExtend (tVar i) (tCons te tNil))) u) δ k PO := .mk fun G0 H0 G H σ m D w hm q => by
  obtain ⟨v, e1, p, o, rfl, hp, ha, hg, h0⟩ := w.sl i _ hi
  cases ha with
  | @lst xs _ hxs =>
    refine ⟨_, e1, .inl ⟨rfl, _, .inl (.inl hp)⟩, ?_⟩
    refine h.run G0 H0 G H σ m _ w (by omega) fun d v G' H' m' pd w' g l x => ?_
    subst pd
    cases x with
    | @lst b zs _ hb hzs =>
      obtain ⟨v2, e2, p2, o2, r2, hp2, ha2, hg2, h02⟩ := w'.sl i _ hi
      rw [e1] at e2
      cases e2
      cases r2
      cases ha2 with
      | @lst xs2 _ hxs2 =>
        refine ⟨p, b, xs2, zs, rfl, rfl, hp2, w'.gd.sub _ _ hb, by rw [hxs2.len, hzs.len]; exact Nat.le_trans hl (by decide), ?_⟩
        exact hn.run G0 H0 G' _ σ m' D (w'.chg hi e1 (.lst (hxs2.app hzs))) (by omega) fun o po => (q o po).le (by omega)
theorem sj_app {ds : List D} (hi : δ[i]? = some (some (.own (.lst ds)))) (h : EJ ρ K te δ k1 P) (hl : ds.length < 1000000) (hn : ∀ d, P d → SJ ρ K E u (δ.set i (some (.own (.lst (ds ++ [d]))))) k PO) :
    SJ ρ K E (tSeq (tDrop (tBM K "list" rAppend (tVar i) (tCons te tNil))) u) δ (k1 + k) PO := .mk fun G0 H0 G H σ m D w hm q => by
  obtain ⟨v, e1, p, o, rfl, hp, ha, hg, h0⟩ := w.sl i _ hi
  cases ha with
  | @lst xs _ hxs =>
    refine ⟨_, e1, .inl ⟨rfl, _, .inl (.inl hp)⟩, ?_⟩
    refine h.run G0 H0 G H σ m _ w (by omega) fun d v G' H' m' pd w' g l x => ?_
    obtain ⟨v2, e2, p2, o2, r2, hp2, ha2, hg2, h02⟩ := w'.sl i _ hi
    rw [e1] at e2
    cases e2
    cases r2
    cases ha2 with
    | @lst xs2 _ hxs2 =>
      refine ⟨p, xs2, v, rfl, rfl, hp2, by rw [hxs2.len]; exact Nat.lt_of_lt_of_le hl (by decide), ?_⟩
      exact (hn d pd).run G0 H0 G' _ σ m' D (w'.chg hi e1 (.lst (hxs2.app (.cons x .nil)))) (by omega) fun o po => (q o po).le (by omega)
/-- x, y = e, f -/
theorem sj_par {PA : List D → Prop} (h : EA ρ K tA δ k1 PA) (h2 : ∀ ds, PA ds → ∃ a b, ds = [a, b] ∧ SJ ρ K E u ((δ.set i (some (.val a))).set j (some (.val b))) k2 PO) : SJ ρ K E (tSeq (tPar i j tA) u) δ (k1 + k2) PO := .mk fun G0 H0 G H σ m D w hm q =>
  h.run G0 H0 G H σ m _ w (by omega) fun ds vs G' H' m' pd w' g l x => by
    obtain ⟨a, b, rfl, hs⟩ := h2 ds pd
    cases x with
    | cons h1 r =>
      cases r with
      | cons h2 r =>
        cases r
        exact ⟨_, _, rfl, hs.run G0 H0 G' H' _ m' D ((w'.set h1).set h2) (by omega) fun o po => (q o po).le (by omega)⟩

/-! methods of lists -/
theorem ej_bm {T : String} {r : V → List V → Hp → VK → Prop} {PA : List D → Prop} (h : EJ ρ K te δ k1 P1) (hA : ∀ d, P1 d → EA ρ K tA δ k2 PA) (hty : ∀ d v G H, P1 d → At K G v d → Same G H → tyV K T v H)
    (hr : ∀ d ds, P1 d → PA ds → ∃ c, P c ∧ ∀ (x : V) (xs : List V) (G H : Hp) (Q : VK), At K G x d → AtL K G xs ds → Same G H → (∀ v G' H', Gd none G H G' H' → At K G' v c → Q v H') → r x xs H Q) : EJ ρ K (tBM K T r te tA) δ (k1 + k2) P := .mk fun G0 H0 G H σ m Q w hm q =>
  h.run G0 H0 G H σ m _ w (by omega) fun d v G1 H1 m1 pd w1 g1 l1 x => ⟨hty d v G1 H1 pd x w1.gd.sub, (hA d pd).run G0 H0 G1 H1 σ m1 _ w1 (by omega) fun ds vs G2 H2 m2 pds w2 g2 l2 xs => by
    obtain ⟨c, pc, run⟩ := hr d ds pd pds
    refine run v vs G2 H2 Q (x.mono g2.gg) xs w2.gd.sub fun v G3 H3 g3 av => ?_
    exact q c v G3 H3 m2 pc (w2.step g3.weak (w2.pot.keep g3)) (Gd.trans w2.pot (Gd.trans w1.pot g1 g2) g3.weak) (by omega) av⟩
theorem bls_flat (bs : List Bool) : (bs.map V.bl).all flatV = true := by
  rw [List.all_eq_true]
  intro x hx
  obtain ⟨b, _, rfl⟩ := List.mem_map.mp hx
  rfl
theorem ed_idxB {bs : List Bool} {n : Nat} (h : ED ρ K te δ (.lst (bs.map D.bl))) (h1 : bs[n]? = some true) (h2 : ∀ m : Nat, m < n → bs[m]? = some false) : ED ρ K (tBM K "list" (rIndex K) te (tCons (tC (.bl true)) tNil)) δ (.int (n : Nat)) :=
  ej_bm (P1 := (· = .lst (bs.map D.bl))) (PA := (· = [.bl true])) h (fun _ _ => eda_cons ed_bl eda_nil) (fun d v G H e x s => by
    subst e
    cases x with
    | lst ha hl => exact .inl ⟨rfl, _, .inl (.inl (s _ _ ha))⟩) (fun d ds e1 e2 => by
    subst e1 e2
    refine ⟨_, rfl, fun x xs G H Q hx hxs s q => ?_⟩
    cases hxs with
    | cons hy r =>
      cases r
      cases hy
      cases hx with
      | @lst p ys _ ha hl =>
        have e := hl.bls
        subst e
        refine ⟨p, _, .bl true, n, .bl true, rfl, rfl, .inl (.inl (s _ _ ha)), rfl, bls_flat _, by rw [List.getElem?_map, h1]; rfl, rfl, fun m z hm hz => ?_, q _ G H (Gd.refl s) (.int _)⟩
        rw [List.getElem?_map, h2 m hm] at hz
        cases hz
        rfl)
theorem ed_cntB {bs : List Bool} (h : ED ρ K te δ (.lst (bs.map D.bl))) : ED ρ K (tBM K "list" (rCntF K) te (tCons (tC (.bl true)) tNil)) δ (.int (bs.count true : Nat)) :=
  ej_bm (P1 := (· = .lst (bs.map D.bl))) (PA := (· = [.bl true])) h (fun _ _ => eda_cons ed_bl eda_nil) (fun d v G H e x s => by
    subst e
    cases x with
    | lst ha hl => exact .inl ⟨rfl, _, .inl (.inl (s _ _ ha))⟩) (fun d ds e1 e2 => by
    subst e1 e2
    refine ⟨_, rfl, fun x xs G H Q hx hxs s q => ?_⟩
    cases hxs with
    | cons hy r =>
      cases r
      cases hy
      cases hx with
      | @lst p ys _ ha hl =>
        have e := hl.bls
        subst e
        refine ⟨p, _, .bl true, rfl, rfl, .inl (.inl (s _ _ ha)), rfl, bls_flat _, ?_⟩
        have e2 : (bs.map V.bl).countP (fun z => eqV z (V.bl true)) = bs.count true := by
          rw [List.countP_map, List.count]
          refine List.countP_congr fun b _ => ?_
          cases b <;> simp [eqV]
        rw [e2]
        exact q _ G H (Gd.refl s) (.int _))

/-! dicts written -/
theorem ed_disp1 {z : Str} (h : ED ρ K te δ d) : EN ρ K (tDisp [(tC (.str z), te)]) δ 0 (· = .dct [(.inr z, d)]) := .mk fun G0 H0 G H σ m Q w hm q => fun p hp => by
  have g1 := Gd.alloc0 (o := HO.dK []) w.gd.sub hp
  have w1 := w.step g1.weak (w.pot.keep g1)
  have gn : G p = none := by
    cases z : G p with
    | none => rfl
    | some x => rw [w.gd.sub p x z] at hp; cases hp
  show te σ (upd H p (HO.dK [])) _
  refine h.run G0 H0 G _ σ m _ w1 hm fun e v G' H' m' pd w' g l x => ?_
  subst pd
  have nr : ρ ≠ some p := fun z => by
    have pp := w.pot
    rw [z] at pp
    obtain ⟨_, _, _, hq, _⟩ : Pot m H p := pp
    rw [hp] at hq; cases hq
  have hd : H' p = some (.dK []) := g.keep p _ nr upd_same
  have hgn : G' p = none := by
    cases z : G' p with
    | none => rfl
    | some o =>
      rcases g.new p (ne_none_of z) with y | y
      · exact absurd gn y
      · rw [upd_same] at y; cases y
  refine ⟨hd, [(.inr z, v)], rfl, Nat.le_of_ble_eq_true rfl, ?_⟩
  show Q (.ref p) (upd H' p (HO.dK [(.inr z, v)]))
  have g2 : Gd ρ G H G' (upd H' p (HO.dK [(.inr z, v)])) := (Gd.trans w1.pot g1.weak g).upd hp hgn
  exact q _ p _ G' _ m' rfl (w.step g2 (w'.pot.upd w.pot hp)) g2 l hp upd_same (.dct (.cons x .nil)) hgn
theorem uj_neg {n : Int} : UJ K (rU fun i => .int (-i)) (.int n) (.int (-n)) := .mk fun x G H Q hx s q => by
  cases hx
  exact ⟨n, rfl, q _ G H (Gd.refl s) (.int _)⟩

/-! errors -/
def spInit (K : PySem.W.Frag) : Sp := fun vs H Q _ => ∃ (a C : Addr) (v : V), vs = [.ref a, v] ∧ OexC K C ∧ PySem.W.findIn K (.ref C) "value" = some none ∧ H a = some (exo a C none) ∧
  ∀ dx, H dx = none → dx ≠ a → Q .non (upd (upd H dx (exd dx [("value", v)])) a (exo a C (some dx)))
theorem ed_exV {C : Addr} (h : EDA ρ K tA δ [d]) (O : OexC K C) (hno : PySem.W.findIn K (.ref C) "value" = some none) : ED ρ K (tExV (spInit K) C tA) δ (.exc C d) := .mk fun G0 H0 G H σ m Q w hm q =>
  h.run G0 H0 G H σ m _ w hm fun ds vs G1 H1 m1 pd w1 g1 l1 ax => by
    subst pd
    cases ax with
    | @cons v _ _ _ hv r =>
      cases r
      refine ⟨by simp, fun a ha => ⟨a, C, v, rfl, O, hno, upd_same, fun dx hdx hne => ⟨rfl, ?_⟩⟩⟩
      have hdx1 : H1 dx = none := by rw [upd_ne hne] at hdx; exact hdx
      have an : a ≠ dx := fun z => hne z.symm
      have ga := w1.gd.sub.free ha
      have gd := w1.gd.sub.free hdx1
      have e : upd (upd (upd H1 a (exo a C none)) dx (exd dx [("value", v)])) a (exo a C (some dx)) = upd (upd H1 dx (exd dx [("value", v)])) a (exo a C (some dx)) := by
        funext b
        by_cases z : b = a
        · subst z; rw [upd_same, upd_same]
        · rw [upd_ne z, upd_ne z]
          by_cases y : b = dx
          · subst y; rw [upd_same, upd_same]
          · rw [upd_ne y, upd_ne y, upd_ne z]
      rw [e]
      have g2 := Gd.alloc (o := exd dx [("value", v)]) w1.gd.sub hdx1
      have ha2 : upd H1 dx (exd dx [("value", v)]) a = none := by rw [upd_ne an]; exact ha
      have g3 := Gd.alloc (o := exo a C (some dx)) g2.sub ha2
      have g4 := Gd.trans0 g2 g3
      refine q _ (.ref a) _ _ m1 rfl (w1.step g4.weak (w1.pot.keep g4)) (Gd.trans w1.pot g1 g4.weak) l1 (.exc upd_same ?_ (hv.mono g4.gg))
      rw [upd_ne hne, upd_same]
theorem ed_err {C : Addr} (h : ED ρ K te δ (.exc C d)) (F : XfC K C) (hno : PySem.W.findIn K (.ref C) "value" = some none) : ED ρ K (tErr K "value" te) δ d := .mk fun G0 H0 G H σ m Q w hm q =>
  h.run G0 H0 G H σ m _ w hm fun e v G1 H1 m1 pd w1 g1 l1 x => by
    subst pd
    cases x with
    | @exc a _ dx v _ h1 h2 hv => exact ⟨a, C, dx, _, v, rfl, w1.gd.sub _ _ h1, w1.gd.sub _ _ h2, F, hno, by simp, q d v G1 H1 m1 rfl w1 g1 l1 hv⟩
theorem cj_isX {C : Addr} {x : V} {cv : Value} {r : Bool} (F : ExcC K C) (hc : ClsV x cv) (e : PySem.W.kitOne K (.ref C) cv = some r) : CJ K (rIsX K) [.exc C d, .opq x] (.bl r) := .mk fun xs G H Q hx s q => by
  cases hx with
  | cons h1 t =>
    cases t with
    | cons h2 t =>
      cases t
      cases h2
      cases h1 with
      | @exc a _ dx v _ h1 h2 hv => exact ⟨a, C, dx, _, x, cv, r, rfl, hc, s _ _ h1, s _ _ h2, F, e, q _ G H (Gd.refl s) (.bl _)⟩
end
end DN

namespace DN
open PySem PySem.Spec PyProof.Rows L2
def topS (i : Nat) : Stmt := PySem.Challenge.pw_downhillnet_k52_errors_keep_any_value.main.body.getD i (.Pass ⟨0, 0, 0, 0⟩)
abbrev s__law_pot : Stmt := topS 43
theorem sc__law_pot : FnScope ["script", "place", "cell", "own", "small"] ["script", "place"] (defScope s__law_pot) := ⟨rfl, rfl, rfl, by decide +kernel, rfl, by decide +kernel, by decide +kernel⟩
abbrev s__law_take : Stmt := topS 44
theorem sc__law_take : FnScope ["pot", "upto", "prime", "blend", "digit"] ["pot", "upto"] (defScope s__law_take) := ⟨rfl, rfl, rfl, by decide +kernel, rfl, by decide +kernel, by decide +kernel⟩
abbrev s__law_of : Stmt := topS 45
theorem sc__law_of : FnScope ["pot", "some"] ["pot", "some"] (defScope s__law_of) := ⟨rfl, rfl, rfl, by decide +kernel, rfl, by decide +kernel, by decide +kernel⟩
abbrev s__law_cells : Stmt := topS 46
theorem sc__law_cells : FnScope ["script", "most"] ["script", "most"] (defScope s__law_cells) := ⟨rfl, rfl, rfl, by decide +kernel, rfl, by decide +kernel, by decide +kernel⟩

def preTake (ρ : Option Addr) (ds : List D) : Prop := ∃ (a : Addr) (u : Int), ds = [.opq (.ref a), .int u] ∧ ρ = some a ∧ 0 < u ∧ u < 2 ^ 62
def postTake (ds : List D) (d : D) : Prop := ∀ (a : V) (u : Int), ds = [.opq a, .int u] → ∃ r, d = .int r ∧ 0 ≤ r ∧ r < u
abbrev spTake (K : PySem.W.Frag) : Sp := spJ K 2 preTake 1 postTake

local macro_rules | `(tactic| walk_at "side") => `(tactic| first | omega | decide | assumption | (refine wide_mul (a := 400) (b := 400) ?_ ?_ (by decide) (by decide) (by decide) <;> omega) | (refine wide_div (b := 400) ?_ ?_ (by decide) (by decide) <;> omega) | (refine powW_of (a := 400) ?_ (by decide) (by decide) (by decide); omega))
local macro_rules | `(tactic| walk_at "rj") => `(tactic| first | exact rj_I0 | exact rj_B0 | (apply rj_I; (· walk_at "side")) | exact rj_eqI | exact rj_neI | exact rj_eqS | exact rj_neS | exact rj_eq rfl | exact rj_ne rfl | exact rj_ixL rfl | exact rj_ixT rfl)
local macro_rules | `(tactic| walk_at "cj") => `(tactic| first | exact cj_len | exact cj_lenT | exact cj_abs | exact cj_int | exact cj_intB | exact cj_max2 | exact cj_min2 | exact cj_tupL | exact cj_tupT | exact cj_sum)
local macro_rules | `(tactic| walk_at "eda") => `(tactic| first | exact eda_nil | (apply eda_cons; (· walk_at "ed"); (· walk_at "eda")))
local macro_rules | `(tactic| walk_at "ed") => `(tactic| first | exact ed_int | exact ed_str | exact ed_bl | exact ed_non | exact ed_var rfl | (apply ed_op; (· walk_at "ed"); (· walk_at "ed"); (· walk_at "rj")) | (apply ed_cb; (· walk_at "eda"); (· walk_at "cj")) | (apply ed_tup; (· walk_at "eda"); (· walk_at "side")) | (apply ed_lst; (· walk_at "eda"); (· walk_at "side")) | (apply ed_notV; (· walk_at "ed")))
local macro_rules | `(tactic| walk_at "eb") => `(tactic| first | (apply eb_test; (· walk_at "ed")) | (apply eb_B; (· walk_at "ed")) | (apply eb_not; (· walk_at "eb")))

structure Txt (K : PySem.W.Frag) (mg : Str → Option Value) : Prop where
  b_int : mg "int" = none
  b_len : mg "len" = none
  b_abs : mg "abs" = none
  b_sum : mg "sum" = none
  b_list : mg "list" = none
  b_range : mg "range" = none
  b_max : mg "max" = none
  b_min : mg "min" = none
section
variable {P : Program} {w : World} {K : PySem.W.Frag} {mg : Str → Option Value} {base : Heap}
theorem ok_take {f : Addr} {fd : FuncData} (F : Fun K "_law_take" "_law_take" s__law_take f fd) (T : Txt K mg) : FnOk P w K mg base CX0 1 f fd ["pot", "upto"] (spTake K) := by
  refine F.ok sc__law_take (fun vs H Q E h => spJ_len h) (fun cdv A outer s H vs Q E hr h => ?_)
  obtain ⟨ρ, G, ds, m, hat, hl, hs, hp, hg, hm, ⟨a, u, rfl, rfl, hu0, hu1⟩, q⟩ := h
  obtain ⟨o, b, c, hp, B⟩ : Pot m H a := hp
  have ga : G a = none := hg a rfl
  cases hat with
  | cons h1 hat =>
  cases hat with
  | cons h2 hat =>
  cases hat
  cases h1
  cases h2
  refine ⟨_, (pss_cons (ps_if (pt_cmpR op_gt (pe_ix ix_list (pv 0) pe_int (fun _ _ => rfl)) pe_int (by first | exact nomark _ | rfl)) (pss_cons (ps_set (i := 4) sc__law_take.nd rfl (by first | exact Or.inl rfl | exact Or.inr rfl) (pe_op op_mod (pe_callTy call_int1 (by rfl) T.b_int (by decide +kernel) (pa_cons (pe_ix ix_list (pv 0) pe_int (fun _ _ => rfl)) pa_nil)) (pv 1)))
 (pss_cons (ps_asg (pe_op op_fdivW (pe_ix ix_list (pv 0) pe_int (fun _ _ => rfl)) (pv 1)) (pg_sub (pv 0) pe_int set_list))
 (pss_one (ps_ret (pv 4))))) pss_nil)
 (pss_cons (ps_asg (pe_op op_add (pe_ix ix_list (pv 0) pe_int (fun _ _ => rfl)) pe_int) (pg_sub (pv 0) pe_int set_list))
 (pss_cons (ps_set (i := 2) sc__law_take.nd rfl (by first | exact Or.inl rfl | exact Or.inr rfl) (pe_ix ix_list (pe_lst (pa_cons pe_int (pa_cons pe_int (pa_cons pe_int (pa_cons pe_int (pa_cons pe_int pa_nil)))))) (pe_op op_mod (pe_callTy call_int1 (by rfl) T.b_int (by decide +kernel) (pa_cons (pe_ix ix_list (pv 0) pe_int (fun _ _ => rfl)) pa_nil)) pe_int) (fun _ _ => rfl)))
 (pss_cons (ps_set (i := 3) sc__law_take.nd rfl (by first | exact Or.inl rfl | exact Or.inr rfl) (pe_op op_mod (pe_callTy call_int1 (by rfl) T.b_int (by decide +kernel) (pa_cons (pe_op op_powW (pe_callTy call_int1 (by rfl) T.b_int (by decide +kernel) (pa_cons (pe_op op_add (pe_op op_add (pe_ix ix_list (pv 0) pe_int (fun _ _ => rfl)) (pe_op op_mulW (pe_op op_mulW pe_int (pe_ix ix_list (pv 0) pe_int (fun _ _ => rfl))) (pe_ix ix_list (pv 0) pe_int (fun _ _ => rfl)))) pe_int) pa_nil)) pe_int) pa_nil)) (pv 2)))
 (pss_cons (ps_set (i := 3) sc__law_take.nd rfl (by first | exact Or.inl rfl | exact Or.inr rfl) (pe_op op_mod (pe_callTy call_int1 (by rfl) T.b_int (by decide +kernel) (pa_cons (pe_op op_mulW (pv 3) (pe_op op_add (pe_op op_mod (pe_callTy call_int1 (by rfl) T.b_int (by decide +kernel) (pa_cons (pv 3) pa_nil)) pe_int) (pe_op op_mulW pe_int (pe_ix ix_list (pv 0) pe_int (fun _ _ => rfl))))) pa_nil)) pe_int))
 (pss_one (ps_ret (pe_op op_mod (pe_callTy call_int1 (by rfl) T.b_int (by decide +kernel) (pa_cons (pe_op op_fdivW (pv 3) pe_int) pa_nil)) (pv 1))))))))), ?_⟩
  -- pot[0] > 0
  have lk : ∀ {x y z : V} {j : Nat} {v : V}, ([x, y, z] : List V)[j]? = some v → atI [x, y, z] (j : Int) = some v := fun e => atI_nat e
  refine ⟨_, rfl, a, _, 0, .int o, rfl, rfl, .inl (.inl hp), lk (j := 0) rfl, o, 0, rfl, rfl, _, rfl, ?_⟩
  by_cases c0 : 0 < o
  · refine ite2 (fun _ => ?_) (fun n => absurd (decide_eq_true c0) n)
    refine ⟨_, rfl, a, _, 0, .int o, rfl, rfl, .inl (.inl hp), lk (j := 0) rfl, .inl ⟨o, rfl, _, rfl, o, u, rfl, rfl, hu0, ?_⟩⟩
    refine ⟨_, rfl, a, _, 0, .int o, rfl, rfl, .inl (.inl hp), lk (j := 0) rfl, _, rfl, o, u, rfl, rfl, wide_div (b := 62) hu0 (by omega) (by decide) (by decide), ?_⟩
    refine ⟨_, rfl, a, _, 0, 0, rfl, rfl, hp, rfl, _, rfl, ?_⟩
    refine q _ _ G _ (m + 1) ?_ (Gd.potUpd hs ga) ?_ (Nat.le_refl _) (.int _)
    · intro a' u' e
      cases e
      exact ⟨_, rfl, Int.emod_nonneg _ (by omega), Int.emod_lt_of_pos _ hu0⟩
    · have h0 : 0 ≤ o / u := Int.ediv_nonneg B.o0 (by omega)
      have h1 : o / u ≤ o := Int.ediv_le_self _ B.o0
      exact ⟨o / u, b, c, upd_same, ⟨h0, Nat.lt_of_le_of_lt (by omega) B.o1, B.b0, B.b1, B.c0, by have := B.c1; omega⟩⟩
  · refine ite2 (fun n => absurd (of_decide_eq_true n) c0) (fun _ => ?_)
    -- pot[2] = pot[2] + 1
    have hc1 := B.c1
    have hc0 := B.c0
    have hm' : m + 1 ≤ 2 ^ 40 := hm
    refine ⟨_, rfl, a, _, 2, .int c, rfl, rfl, .inl (.inl hp), lk (j := 2) rfl, c, 1, rfl, rfl, ?_⟩
    refine ⟨_, rfl, a, _, 2, 2, rfl, rfl, hp, rfl, ?_⟩
    generalize hH1 : upd H a (.lst ([V.int o, .int b, .int c].set 2 (.int (c + 1)))) = H1
    have hp1 : H1 a = some (.lst [.int o, .int b, .int (c + 1)]) := by rw [← hH1, upd_same]; rfl
    have g1 : Gd (some a) G H G H1 := by rw [← hH1]; exact Gd.potUpd hs ga
    -- from here on the pot stands: it is known
    have hgs : Same G (upd G a (.lst [.int o, .int b, .int (c + 1)])) := same_new ga
    have hsub : Same (upd G a (.lst [.int o, .int b, .int (c + 1)])) H1 := fun x y e => by
      by_cases z : x = a
      · subst z; rw [upd_same] at e; rw [hp1]; exact e
      · rw [upd_ne z] at e; exact g1.sub x y e
    have wf : Wf none K (upd G a (.lst [.int o, .int b, .int (c + 1)])) H1 (upd G a (.lst [.int o, .int b, .int (c + 1)])) H1 (L2.start ["pot", "upto", "prime", "blend", "digit"] [V.ref a, V.int u]) [some (.val (.lst [.int o, .int b, .int (c + 1)])), some (.val (.int u)), none, none, none] 0 := by
      refine ⟨rfl, Gd.refl hsub, trivial, fun a e => (nomatch e), fun i s e => ?_, fun i j d e n h1 h2 => ?_⟩
      · match i, e with
        | 0, e => cases e; exact ⟨_, rfl, .lst upd_same (.cons (.int _) (.cons (.int _) (.cons (.int _) .nil)))⟩
        | 1, e => cases e; exact ⟨_, rfl, .int _⟩
        | 2, e => cases e
        | 3, e => cases e
        | 4, e => cases e
        | n + 5, e => simp at e
      · match i, h1 with
        | 0, e => cases e
        | 1, e => cases e
        | 2, e => cases e
        | 3, e => cases e
        | 4, e => cases e
        | n + 5, e => simp at e
    have fin : ∀ v d G' H', (∃ r, d = D.int r ∧ 0 ≤ r ∧ r < u) → Gd none (upd G a (.lst [.int o, .int b, .int (c + 1)])) H1 G' H' → At K G' v d → Q v H' := by
      intro v d G' H' ⟨r, e, r0, r1⟩ g2 hv
      subst e
      cases hv
      have hp2 : H' a = some (.lst [.int o, .int b, .int (c + 1)]) := g2.keep _ _ (by simp) hp1
      refine q (.int r) _ G H' (m + 1) (fun a' u' e => by cases e; exact ⟨r, rfl, r0, r1⟩) ⟨fun x y z e => g2.keep x y (by simp) (g1.keep x y z e), Same.refl _, fun x y e => g2.keep x y (by simp) (g1.sub x y e), fun x e => .inl e⟩ ⟨o, b, c + 1, hp2, ⟨B.o0, B.o1, B.b0, B.b1, by omega, by omega⟩⟩ (Nat.le_refl _) (.int r)
    have hb0 := B.b0
    have hb1 := B.b1
    have hcc0 : 0 ≤ 98401 * (c + 1) * (c + 1) := Int.mul_nonneg (by omega) (by omega)
    have hcc1 : 98401 * (c + 1) * (c + 1) ≤ 2 ^ 120 := Int.le_trans (Int.mul_le_mul (show 98401 * (c + 1) ≤ 2 ^ 60 by omega) (show c + 1 ≤ 2 ^ 60 by omega) (by omega) (by omega)) (by decide)
    refine sj_run (E := E) (k := 9) (PO := fun o => ∃ r, o = .rt (.int r) ∧ 0 ≤ r ∧ r < u) ?_ wf (by decide) (fun o po => ?_)
    · refine sj_nexts ?_
      dsimp only [cxOf, Cx.nox, Cx.wish]
      apply sj_le
      · apply sj_set
        · apply ej_ixE
          walk_at "ed"
          walk_at "ed"
          omega
          show _ < ((5 : Nat) : Int)
          omega
        intro d hd
        obtain ⟨pr, rfl, hpr0, hpr1⟩ : ∃ pr, d = .int pr ∧ 0 < pr ∧ pr < 2 ^ 31 := by
          simp only [List.mem_cons, List.not_mem_nil, or_false] at hd
          rcases hd with rfl | rfl | rfl | rfl | rfl <;> exact ⟨_, rfl, by decide, by decide⟩
        clear hd
        apply sj_set
        · apply ej_modE
          walk_at "ed"
          walk_at "ed"
          omega
        rintro _ ⟨bl, rfl, bl0, bl1⟩
        have hm0 : 0 ≤ bl % 10009 := Int.emod_nonneg _ (by decide)
        have hm1 : bl % 10009 < 10009 := Int.emod_lt_of_pos _ (by decide)
        apply sj_set
        · apply ej_modE
          walk_at "ed"
          walk_at "ed"
          omega
        rintro _ ⟨bm, rfl, bm0, bm1⟩
        apply sj_retP
        · apply ej_modE
          walk_at "ed"
          walk_at "ed"
          omega
        rintro _ ⟨r, rfl, r0, r1⟩
        exact ⟨r, rfl, r0, r1⟩
      · decide
    · obtain ⟨r, rfl, h⟩ := po
      exact fun v G' H' m' g p l hv => fin v _ G' H' ⟨r, rfl, h⟩ g hv

/-- some[_law_take(pot, len(some))] -/
def preOf (ρ : Option Addr) (ds : List D) : Prop := ∃ (a : Addr) (s : D), ds = [.opq (.ref a), s] ∧ ρ = some a ∧ ((∃ l, s = .lst l ∧ 0 < l.length ∧ l.length < 2 ^ 40) ∨ ∃ z : Str, s = .str z ∧ 0 < z.length ∧ z.length < 1000)
def postOf (ds : List D) (d : D) : Prop := (∀ a l, ds = [.opq a, .lst l] → d ∈ l) ∧ (∀ a (z : Str), ds = [.opq a, .str z] → ∃ c ∈ z.cps.toList, d = .str ⟨#[c]⟩)
abbrev spOf (K : PySem.W.Frag) : Sp := spJ K 2 preOf 1 postOf
theorem ok_of {f : Addr} {fd : FuncData} (F : Fun K "_law_of" "_law_of" s__law_of f fd) (T : Txt K mg) (c__law_take : C8.Cal P w K mg base 1 "_law_take" (spTake K) []) : FnOk P w K mg base CX0 2 f fd ["pot", "some"] (spOf K) := by
  refine F.ok sc__law_of (fun vs H Q E h => spJ_len h) (fun cdv A outer s H vs Q E hr h => ?_)
  refine ⟨_, (pss_one (ps_ret (pe_ix ix_seq (pv 1) (C8.pe_c c__law_take hr (by omega) (by rfl) (pa_cons (pv 0) (pa_cons (pe_callB call_len (by rfl) T.b_len (by decide +kernel) (pa_cons (pv 1) pa_nil)) pa_nil))) (fun _ _ => rfl)))), body_of (n := 2) (fun ρ ds hl hp => ?_) h⟩
  obtain ⟨a, s, rfl, rfl, hs⟩ := hp
  dsimp only [cxOf, Cx.nox, Cx.wish]
  rcases hs with ⟨l, rfl, l0, l1⟩ | ⟨z, rfl, z0, z1⟩
  · refine ⟨0 + (0 + (0 + 0) + 1), by decide, ?_⟩
    apply sj_retP (P := fun d => d ∈ l)
    · apply ej_op (P1 := (· = .lst l)) (P2 := fun d => ∃ r, d = .int r ∧ 0 ≤ r ∧ r < (l.length : Int))
      · walk_at "ed"
      · intro _ _
        apply ej_call (PA := (· = [.opq (.ref a), .int (l.length : Nat)]))
        · apply eda_cons
          · exact ed_var rfl
          apply eda_cons
          · exact ed_cb (eda_cons (ed_var rfl) eda_nil) cj_lenA
          exact eda_nil
        · rintro _ rfl
          exact ⟨rfl, a, _, rfl, rfl, by omega, by omega⟩
        · rintro _ d rfl hd
          exact hd _ _ rfl
      · rintro _ _ rfl ⟨r, rfl, r0, r1⟩
        have hi : r.toNat < l.length := by omega
        refine ⟨l[r.toNat], List.getElem_mem hi, rj_ix_lst ?_⟩
        have e : r = (r.toNat : Int) := by omega
        exact atI_of e (List.getElem?_eq_getElem hi)
    · exact fun d hd => .inl ⟨d, rfl, ⟨fun a' l' e => (by cases e; exact hd), fun a' z e => (by cases e)⟩⟩
  · refine ⟨0 + (0 + (0 + 0) + 1), by decide, ?_⟩
    have zl : z.length = z.cps.toList.length := by show z.cps.size = _; simp
    apply sj_retP (P := fun d => ∃ c ∈ z.cps.toList, d = .str ⟨#[c]⟩)
    · apply ej_op (P1 := (· = .str z)) (P2 := fun d => ∃ r, d = .int r ∧ 0 ≤ r ∧ r < (z.length : Int))
      · walk_at "ed"
      · intro _ _
        apply ej_call (PA := (· = [.opq (.ref a), .int (z.length : Nat)]))
        · apply eda_cons
          · exact ed_var rfl
          apply eda_cons
          · exact ed_cb (eda_cons (ed_var rfl) eda_nil) (cj_lenAS (by omega))
          exact eda_nil
        · rintro _ rfl
          exact ⟨rfl, a, _, rfl, rfl, by omega, by omega⟩
        · rintro _ d rfl hd
          exact hd _ _ rfl
      · rintro _ _ rfl ⟨r, rfl, r0, r1⟩
        have hi : r.toNat < z.cps.toList.length := by omega
        refine ⟨.str ⟨#[z.cps.toList[r.toNat]]⟩, ⟨_, List.getElem_mem hi, rfl⟩, rj_ix_str (by omega) ?_⟩
        have e : r = (r.toNat : Int) := by omega
        exact atI_of e (List.getElem?_eq_getElem hi)
    · exact fun d hd => .inl ⟨d, rfl, ⟨fun a' l' e => (by cases e), fun a' z e => (by cases e; exact hd)⟩⟩

/-! ### the pots, the cells -/
def noHp : Hp := fun _ => none
theorem noHp_same (H : Hp) : Same noHp H := fun _ _ e => by cases e
/-- the slots at the start of a body that knows nothing of the heap -/
theorem wf_start {H : Hp} {σ : L2.St} {δ : Dl} (hl : σ.length = δ.length) (h : ∀ (i : Nat) (s : Sl), δ[i]? = some (some s) → ∃ v d, σ[i]? = some (some v) ∧ s = .val d ∧ At K noHp v d) : Wf none K noHp H noHp H σ δ 0 :=
  ⟨hl, Gd.refl (noHp_same H), trivial, fun a e => (nomatch e), fun i s e => by
    obtain ⟨v, d, h1, rfl, h2⟩ := h i s e
    exact ⟨v, h1, h2⟩, fun i j d e n h1 h2 => by
    obtain ⟨v, d, _, h, _⟩ := h i _ h1
    cases h⟩
def spPot (K : PySem.W.Frag) : Sp := fun vs H Q _ => ∃ (a : Addr) (ns : List Int) (j : Nat), vs = [.ref a, .int (j : Int)] ∧ SqL K H a (ns.map V.int) ∧ ns.length ≤ 63 ∧ j ≤ 63 ∧ ∀ p H', Same H H' → H p = none → Pot 0 H' p → Q (.ref p) H'
theorem sum1 (ns : List Int) : (ns.take 1).sum = (ns.take 1).sum := rfl
theorem ok_pot {f : Addr} {fd : FuncData} (F : Fun K "_law_pot" "_law_pot" s__law_pot f fd) (T : Txt K mg) : FnOk P w K mg base CX0 1 f fd ["script", "place"] (spPot K) := by
  refine F.ok sc__law_pot (fun vs H Q E h => ?_) (fun cdv A outer s H vs Q E hr h => ?_)
  · obtain ⟨a, ns, j, rfl, _⟩ := h
    rfl
  obtain ⟨a, ns, j, rfl, hS, hl, hj, q⟩ := h
  refine ⟨_, (pss_cons (ps_set (i := 2) sc__law_pot.nd rfl (by first | exact Or.inl rfl | exact Or.inr rfl) (pe_ifExp (pt_cmpR op_lt (pv 1) (pe_callB call_len_seq (by rfl) T.b_len (by decide +kernel) (pa_cons (pv 0) pa_nil)) (by first | exact nomark _ | rfl)) (pe_ix ix_list (pv 0) (pv 1) (fun _ _ => rfl)) (pe_op op_add (pe_op op_add (pe_op op_mod (pe_callB (cr_sum (by rfl)) (by rfl) T.b_sum (by decide +kernel) (pa_cons (pe_slice sl_list (pv 0) po_none (po_some pe_int)) pa_nil)) pe_int) (pe_op op_mulW pe_int (pv 1))) pe_int)))
 (pss_cons (ps_set (i := 3) sc__law_pot.nd rfl (by first | exact Or.inl rfl | exact Or.inr rfl) (pe_op op_mulW (pe_op op_mod (pe_callTy call_int1 (by rfl) T.b_int (by decide +kernel) (pa_cons (pe_callB call_abs (by rfl) T.b_abs (by decide +kernel) (pa_cons (pv 2) pa_nil)) pa_nil)) (pe_op op_powW (pe_op op_powW pe_int pe_int) pe_int)) (pe_callTy call_int1 (by rfl) T.b_int (by decide +kernel) (pa_cons (pe_cmpR op_ge (pe_callB call_abs (by rfl) T.b_abs (by decide +kernel) (pa_cons (pv 2) pa_nil)) (pe_op op_powW pe_int pe_int) (by first | exact nomark _ | rfl)) pa_nil))))
 (pss_cons (ps_set (i := 4) sc__law_pot.nd rfl (by first | exact Or.inl rfl | exact Or.inr rfl) (pe_op op_mod (pe_callTy call_int1 (by rfl) T.b_int (by decide +kernel) (pa_cons (pv 2) pa_nil)) pe_int))
 (pss_one (ps_ret (pe_lst (pa_cons (pv 3) (pa_cons (pe_op op_mod (pe_callTy call_int1 (by rfl) T.b_int (by decide +kernel) (pa_cons (pe_op op_add (pe_op op_add (pe_op op_mulW (pv 4) pe_int) (pe_op op_mulW (pe_op op_mulW pe_int (pv 1)) (pv 1))) pe_int) pa_nil)) pe_int) (pa_cons pe_int pa_nil))))))))), ?_⟩
  dsimp only [cxOf, Cx.nox, Cx.wish]
  refine asg_int (fun z H1 s1 => ?_) (fun Q2 q2 => ?_)
  · -- the rest, from any cell
    refine sj_run (ρ := none) (K := K) (E := E) (k := 9) (PO := fun o => ∃ x y : Int, o = .rt (.lst [.int x, .int y, .int 0]) ∧ 0 ≤ x ∧ x.natAbs < 2 ^ 1100 ∧ 0 ≤ y ∧ y < 2 ^ 62) ?_ (wf_start (H := H1) (δ := [none, some (.val (.int (j : Int))), some (.val (.int z)), none, none]) rfl (fun i s e => ?_)) (by decide) (fun o po => ?_)
    · apply sj_le
      · apply sj_set (P := fun d => ∃ x : Int, d = .int x ∧ 0 ≤ x ∧ x.natAbs < 2 ^ 1100)
        · apply ej_op (P1 := fun d => ∃ x : Int, d = .int x ∧ 0 ≤ x ∧ x < 10 ^ 300) (P2 := fun d => d = .int 1 ∨ d = .int 0)
          · apply ej_modE
            · walk_at "ed"
            · exact ed_op (ed_op ed_int ed_int (rj_I ⟨by decide, by decide +kernel⟩)) ed_int (rj_I ⟨by decide, by decide +kernel⟩)
            · decide +kernel
          · intro _ _
            apply ej_cb (PA := fun ds => ∃ b, ds = [.bl b])
            · apply ea_cons (P1 := fun d => ∃ b, d = .bl b) (PR := (· = []))
              · apply ej_ex
                · exact ed_op (ed_cb (eda_cons (ed_var rfl) eda_nil) cj_abs) (ed_op ed_int ed_int (rj_I ⟨by decide, by decide +kernel⟩)) rj_B0
                · exact ⟨_, rfl⟩
              · intro _ _
                exact eda_nil
              · rintro _ _ ⟨b, rfl⟩ rfl
                exact ⟨b, rfl⟩
            · rintro _ ⟨b, rfl⟩
              exact ⟨_, (by cases b <;> simp), cj_intB⟩
          · rintro _ _ ⟨x, rfl, x0, x1⟩ he
            have hb : x.natAbs < 2 ^ 1000 := by
              have h2 : (10 : Int) ^ 300 ≤ 2 ^ 1000 := by decide +kernel
              have h3 : (x.natAbs : Int) < 2 ^ 1000 := by omega
              exact_mod_cast h3
            rcases he with rfl | rfl
            · refine ⟨_, ⟨x * 1, rfl, by omega, ?_⟩, rj_I (wide_mul (a := 1000) (b := 10) hb (by decide) (by decide) (by decide) (by decide))⟩
              rw [Int.mul_one]
              exact Nat.lt_trans hb (Nat.pow_lt_pow_right (by decide) (by decide))
            · refine ⟨_, ⟨x * 0, rfl, by omega, ?_⟩, rj_I (wide_mul (a := 1000) (b := 10) hb (by decide) (by decide) (by decide) (by decide))⟩
              rw [Int.mul_zero]
              exact Nat.two_pow_pos _
        rintro _ ⟨x, rfl, x0, x1⟩
        apply sj_set
        · apply ej_modE
          walk_at "ed"
          walk_at "ed"
          decide
        rintro _ ⟨sm, rfl, s0, s1'⟩
        have hjj : (j : Int) ≤ 63 := by omega
        apply sj_retP (P := fun d => ∃ y : Int, d = .lst [.int x, .int y, .int 0] ∧ 0 ≤ y ∧ y < 2 ^ 62)
        · apply ej_lst (PA := fun ds => ∃ y : Int, ds = [.int x, .int y, .int 0] ∧ 0 ≤ y ∧ y < 2 ^ 62)
          · apply ea_cons (P1 := (· = .int x)) (PR := fun ds => ∃ y : Int, ds = [.int y, .int 0] ∧ 0 ≤ y ∧ y < 2 ^ 62)
            · walk_at "ed"
            · intro _ _
              apply ea_cons (PR := (· = [.int 0]))
              · apply ej_modE
                walk_at "ed"
                walk_at "ed"
                decide
              · intro _ _
                walk_at "eda"
              · rintro _ _ ⟨y, rfl, y0, y1⟩ rfl
                exact ⟨y, rfl, y0, by omega⟩
            · rintro _ _ rfl ⟨y, rfl, y0, y1⟩
              exact ⟨y, rfl, y0, y1⟩
          · rintro _ ⟨y, rfl, _⟩
            show 3 ≤ 1000000
            decide
          · rintro _ ⟨y, rfl, y0, y1⟩
            exact ⟨y, rfl, y0, y1⟩
        · rintro _ ⟨y, rfl, y0, y1⟩
          exact ⟨x, y, rfl, x0, x1, y0, y1⟩
      · decide
    · match i, e with
      | 0, e => cases e
      | 1, e => cases e; exact ⟨_, _, rfl, rfl, .int _⟩
      | 2, e => cases e; exact ⟨_, _, rfl, rfl, .int _⟩
      | 3, e => cases e
      | 4, e => cases e
      | n + 5, e => simp at e
    · obtain ⟨x, y, rfl, x0, x1, y0, y1⟩ := po
      intro v G' H' m' g p l hv
      cases hv with
      | @lst p xs _ hp hl =>
        cases hl with
        | cons h1 hl =>
        cases hl with
        | cons h2 hl =>
        cases hl with
        | cons h3 hl =>
        cases hl
        cases h1
        cases h2
        cases h3
        have hn : H1 p = none := by
          rcases g.new p (ne_none_of hp) with z | z
          · exact absurd rfl z
          · exact z
        exact q p H' (s1.trans fun b o e => g.keep b o (by simp) e) (s1.free hn) ⟨x, y, 0, g.sub _ _ hp, ⟨x0, x1, y0, y1, by omega, by omega⟩⟩
  · refine ⟨_, rfl, _, rfl, a, _, rfl, .inl hS, _, _, rfl, rfl, _, rfl, ite2 (fun h => ?_) (fun h => ?_)⟩
    · have hj2 : j < ns.length := by
        have := of_decide_eq_true h
        rw [List.length_map] at this
        omega
      refine ⟨_, rfl, _, rfl, a, _, (j : Int), .int ns[j], rfl, rfl, hS, atI_nat (by rw [List.getElem?_map, List.getElem?_eq_getElem hj2]; rfl), q2 _ H (Same.refl _)⟩
    · refine ⟨_, rfl, 1, rfl, a, _, rfl, hS, fun p hp => ?_⟩
      have sm := same_new (o := HO.lst (cutV (ns.map V.int) none (some 1))) hp
      refine ⟨p, _, rfl, .inl (.inl (upd_same.trans (congrArg (fun x => some (HO.lst x)) (cutV_map V.int ns none (some 1))))), ?_⟩
      · refine ⟨_, _, rfl, rfl, (by show (0 : Int) < 1000003; decide), _, rfl, _, _, rfl, rfl, wide_mul (a := 60) (b := 60) (by decide) (by omega) (by decide) (by decide) (by decide), _, _, rfl, rfl, _, _, rfl, rfl, q2 _ _ sm⟩

def spCells (K : PySem.W.Frag) : Sp := fun vs H Q _ => ∃ (a : Addr) (ns : List Int) (most : Nat), vs = [.ref a, .int (most : Int)] ∧ SqL K H a (ns.map V.int) ∧ ns.length ≤ 63 ∧ 1 ≤ most ∧ most ≤ 63 ∧
  ∀ p (n : Nat) H', 1 ≤ n → n ≤ most → Same H H' → H p = none → H' p = some (.lst ((List.range n).map fun (i : Nat) => V.int (i : Int))) → Q (.ref p) H'
theorem ok_cells {f : Addr} {fd : FuncData} (F : Fun K "_law_cells" "_law_cells" s__law_cells f fd) (T : Txt K mg) : FnOk P w K mg base CX0 1 f fd ["script", "most"] (spCells K) := by
  refine F.ok sc__law_cells (fun vs H Q E h => ?_) (fun cdv A outer s H vs Q E hr h => ?_)
  · obtain ⟨a, ns, j, rfl, _⟩ := h
    rfl
  obtain ⟨a, ns, most, rfl, hS, hl, h1, h63, q⟩ := h
  refine ⟨_, (pss_one (ps_ret (pe_listRg (by rfl) (by rfl) T.b_list (prg_1 (by rfl) T.b_range (pe_callB (call_max2 (by rfl)) (by rfl) T.b_max (by decide +kernel) (pa_cons pe_int (pa_cons (pe_callB (call_min2 (by rfl)) (by rfl) T.b_min (by decide +kernel) (pa_cons (pv 1) (pa_cons (pe_callB call_len_seq (by rfl) T.b_len (by decide +kernel) (pa_cons (pv 0) pa_nil)) pa_nil))) pa_nil))))))), ?_⟩
  refine ⟨_, rfl, _, rfl, a, _, rfl, .inl hS, most, _, rfl, 1, _, rfl, _, rfl, ?_⟩
  rw [List.length_map]
  obtain ⟨n, hn, n1, n2⟩ : ∃ n : Nat, (if (if ((ns.length : Nat) : Int) < (most : Int) then ((ns.length : Nat) : Int) else (most : Int)) > 1 then (if ((ns.length : Nat) : Int) < (most : Int) then ((ns.length : Nat) : Int) else (most : Int)) else 1) = (n : Int) ∧ 1 ≤ n ∧ n ≤ most := by
    refine ⟨max 1 (min ns.length most), ?_, by omega, by omega⟩
    split <;> split <;> omega
  rw [hn]
  refine ⟨RgOk.of_le (by omega) (by omega) (by omega) (by omega), fun p hp => ?_⟩
  refine q p n _ n1 n2 (same_new hp) hp ?_
  rw [upd_same]
  unfold rgV
  rw [show ((n : Int) - 0).toNat = n by omega]
  refine congrArg (fun x => some (HO.lst x)) (List.map_congr_left fun x _ => ?_)
  simp
end
/-! ### the law itself: over cells, of each its pot -/
section
variable {K : PySem.W.Frag} {δ : Dl} {ta tb te : TE}
theorem ej_potcall {c j : Nat} {ns : List Int} {pre : Option Addr → List D → Prop} {post : List D → D → Prop} {P : D → Prop} {E1 E2 : XK} (ha : ED none K ta δ (.scr ns)) (hb : ED none K tb δ (.int (j : Int))) (hl : ns.length ≤ 63) (hj : j ≤ 63) (hc : c ≤ Mx)
    (hpre : ∀ p, pre (some p) [.opq (.ref p)]) (hpost : ∀ p d, post [.opq (.ref p)] d → P d) :
    EJ none K (tCall (spJ K 1 pre c post) [] E1 (tCons (tCall (spPot K) [] E2 (tCons ta (tCons tb tNil))) tNil)) δ 0 P := .mk fun G0 H0 G H σ m Q w hm q =>
  ha.run G0 H0 G H σ m _ w hm fun d v G1 H1 m1 pd w1 g1 l1 x => hb.run G0 H0 G1 H1 σ m1 _ w1 (by omega) fun d2 v2 G2 H2 m2 pd2 w2 g2 l2 x2 => by
    subst pd pd2
    cases x2
    have x' := x.mono g2.gg
    cases x' with
    | @scr a _ hS =>
      refine ⟨a, ns, j, rfl, Same.sqL w2.gd.sub hS, hl, hj, fun p H3 hs hp hpot => ?_⟩
      have gp : G2 p = none := w2.gd.sub.free hp
      refine ⟨some p, G2, [.opq (.ref p)], 0, .cons (.opq _) .nil, rfl, w2.gd.sub.trans hs, hpot, fun a e => by cases e; exact gp, by omega, hpre p, fun d v G4 H4 m4 pd g4 p4 l4 av => ?_⟩
      have g5 : Gd none G2 H2 G4 H4 := ⟨fun b o _ e => g4.keep b o (fun z => by cases z; rw [hp] at e; cases e) (hs _ _ e), g4.gg, g4.sub, fun b e => by
        rcases g4.new b e with y | y
        · exact .inl y
        · exact .inr (hs.free y)⟩
      exact q d v G4 H4 m2 (hpost p d pd) (w2.step g5 trivial) (Gd.trans0 (Gd.trans0 g1 g2) g5) (by omega) av
theorem ij_cells {most : Nat} {ns : List Int} {E1 : XK} (ha : ED none K ta δ (.scr ns)) (hb : ED none K tb δ (.int (most : Int))) (hl : ns.length ≤ 63) (h1 : 1 ≤ most) (h2 : most ≤ 63) :
    IJ none K (iList K (tCall (spCells K) [] E1 (tCons ta (tCons tb tNil)))) δ 0 (fun ds => ∃ n : Nat, n ≤ most ∧ ds = (List.range n).map fun (i : Nat) => D.int (i : Int)) := .mk fun G0 H0 G H σ m R w hm q => by
  refine (ij_listP (ρ := none) (k := 0) (PL := fun ds => ∃ n : Nat, n ≤ most ∧ ds = (List.range n).map fun (i : Nat) => D.int (i : Int)) ?_).run G0 H0 G H σ m R w hm q
  refine .mk fun G0 H0 G H σ m Q w hm q => ?_
  refine ha.run G0 H0 G H σ m _ w hm fun d v G1 H1 m1 pd w1 g1 l1 x => hb.run G0 H0 G1 H1 σ m1 _ w1 (by omega) fun d2 v2 G2 H2 m2 pd2 w2 g2 l2 x2 => ?_
  subst pd pd2
  cases x2
  have x' := x.mono g2.gg
  cases x' with
  | @scr a _ hS =>
    refine ⟨a, ns, most, rfl, Same.sqL w2.gd.sub hS, hl, h1, h2, fun p n H3 n1 n2 hs hp h3 => ?_⟩
    have gp : G2 p = none := w2.gd.sub.free hp
    have gg := same_new (o := HO.lst ((List.range n).map fun (i : Nat) => V.int (i : Int))) gp
    have g5 : Gd none G2 H2 (upd G2 p (.lst ((List.range n).map fun (i : Nat) => V.int (i : Int)))) H3 := ⟨fun b o _ e => hs _ _ e, gg, fun b u e => by
      by_cases z : b = p
      · subst z; rw [upd_same] at e; rw [h3]; exact e
      · rw [upd_ne z] at e; exact hs _ _ (w2.gd.sub _ _ e), fun b e => by
      by_cases z : b = p
      · subst z; exact .inr hp
      · rw [upd_ne z] at e; exact .inl e⟩
    refine q _ (.ref p) _ H3 m2 ⟨_, rfl, n, n2, rfl⟩ (w2.step g5 trivial) (Gd.trans0 (Gd.trans0 g1 g2) g5) (by omega) (.lst upd_same ?_)
    have := atL_ints (K := K) (G := upd G2 p (.lst ((List.range n).map fun (i : Nat) => V.int (i : Int)))) ((List.range n).map fun (i : Nat) => (i : Int))
    rw [List.map_map, List.map_map] at this
    exact this
/-- all([right(pot(script, place)) for place in cells(script, most)]) is true -/
theorem sj_law {c most : Nat} {ns : List Int} {pre : Option Addr → List D → Prop} {post : List D → D → Prop} {E1 E2 E3 E : XK} {L vs : List Nat} {g : TG} {δt : D → Dl} (hl : ns.length ≤ 63) (h1 : 1 ≤ most) (h2 : most ≤ 63) (hc : c ≤ Mx) (ha : ED none K ta δ (.scr ns)) (hb : ED none K tb δ (.int (most : Int)))
    (hL : ∀ i ∈ L, i ∈ vs) (hg : ∀ d, GJ none K g L d (wipeD δ vs) (δt d)) {tc td : TE} (hc' : ∀ d, ED none K tc (δt d) (.scr ns)) (hd : ∀ d, ED none K td (δt d) d)
    (hpre : ∀ p, pre (some p) [.opq (.ref p)]) (hpost : ∀ p d, post [.opq (.ref p)] d → d = .bl true) :
    SJ none K E (tRet (tCB (rAll K) (tCons (tLc (iList K (tCall (spCells K) [] E1 (tCons ta (tCons tb tNil)))) g tYes (tCall (spJ K 1 pre c post) [] E2 (tCons (tCall (spPot K) [] E3 (tCons tc (tCons td tNil))) tNil)) vs) tNil))) δ (0 + 63 * 0 + 0) (· = .rt (.bl true)) := by
  apply sj_retP (P := (· = .bl true))
  · apply ej_cb (PA := fun ds => ∃ bs : List Bool, ds = [.lst (bs.map D.bl)] ∧ bs.all id = true)
    · apply ea_cons (P1 := fun d => ∃ bs : List Bool, d = .lst (bs.map D.bl) ∧ bs.all id = true) (PR := (· = []))
      · refine EN.ej ((en_lc (p := fun _ => true) (R := fun _ r => r = .bl true) (N := 63) (ke := 0) (ij_cells ha hb hl h1 h2) (fun ds h => ?_) hL (by decide) (fun ds d h hd => hg d) (fun ds d h hd => eb_yes) (fun ds d h hm _ => ?_)).mono (Nat.le_refl _) fun r h => ?_)
        · obtain ⟨n, hn, rfl⟩ := h
          rw [List.length_map, List.length_range]; omega
        · obtain ⟨n, hn, rfl⟩ := h
          obtain ⟨j, hj, rfl⟩ := List.mem_map.mp hm
          have := List.mem_range.mp hj
          exact ej_potcall (hc' _) (hd _) hl (by omega) hc hpre hpost
        · obtain ⟨ds, rs, rfl, _, hall⟩ := h
          have hr : ∀ {as bs : List D}, All2 (fun _ r => r = D.bl true) as bs → ∃ l : List Bool, bs = l.map D.bl ∧ l.all id = true := by
            intro as bs h
            induction h with
            | nil => exact ⟨[], rfl, rfl⟩
            | cons h _ ih =>
              obtain ⟨l, rfl, e⟩ := ih
              exact ⟨true :: l, by rw [h]; rfl, by simpa using e⟩
          obtain ⟨l, rfl, e⟩ := hr hall
          exact ⟨l, rfl, e⟩
      · intro _ _
        exact eda_nil
      · rintro _ _ ⟨bs, rfl, e⟩ rfl
        exact ⟨bs, rfl, e⟩
    · rintro _ ⟨bs, rfl, e⟩
      exact ⟨_, congrArg D.bl e, cj_all⟩
  · intro d e
    rw [e]
end
/-- the slots of the law: the script -/
theorem wf_script {K : PySem.W.Frag} {H : Hp} {a : Addr} {ns : List Int} {σ : L2.St} {δ : Dl} (hS : SqL K H a (ns.map V.int)) (hl : σ.length = δ.length) (h0 : σ[0]? = some (some (.ref a))) (h : ∀ (i : Nat) (s : Sl), δ[i]? = some (some s) → i = 0 ∧ s = .val (.scr ns)) : Wf none K H H H H σ δ 0 :=
  ⟨hl, Gd.refl (Same.refl _), trivial, fun a e => (nomatch e), fun i s e => by
    obtain ⟨rfl, rfl⟩ := h i s e
    exact ⟨_, h0, .scr hS⟩, fun i j d e n h1 h2 => by
    obtain ⟨rfl, h⟩ := h i _ h1
    cases h⟩
end DN

namespace DN
open PySem PySem.Spec PyProof.Rows L2
abbrev s_NetError___init__ : Stmt := inClass (topS 1) 0
theorem sc_NetError___init__ : FnScope ["self", "value"] ["self", "value"] (defScope s_NetError___init__) := ⟨rfl, rfl, rfl, by decide +kernel, rfl, by decide +kernel, by decide +kernel⟩
abbrev s__law_odd : Stmt := topS 47
theorem sc__law_odd : FnScope ["pot", "some"] ["pot"] (defScope s__law_odd) := ⟨rfl, rfl, rfl, by decide +kernel, rfl, by decide +kernel, by decide +kernel⟩
abbrev s__law_made : Stmt := topS 48
theorem sc__law_made : FnScope ["value", "found"] ["value"] (defScope s__law_made) := ⟨rfl, rfl, rfl, by decide +kernel, rfl, by decide +kernel, by decide +kernel⟩
abbrev s__law_made_too : Stmt := topS 49
theorem sc__law_made_too : FnScope ["value", "found"] ["value"] (defScope s__law_made_too) := ⟨rfl, rfl, rfl, by decide +kernel, rfl, by decide +kernel, by decide +kernel⟩
abbrev s__law_made_more : Stmt := topS 50
theorem sc__law_made_more : FnScope ["value", "found"] ["value"] (defScope s__law_made_more) := ⟨rfl, rfl, rfl, by decide +kernel, rfl, by decide +kernel, by decide +kernel⟩
abbrev s__law_kinds : Stmt := topS 51
theorem sc__law_kinds : FnScope ["error", "found"] ["error"] (defScope s__law_kinds) := ⟨rfl, rfl, rfl, by decide +kernel, rfl, by decide +kernel, by decide +kernel⟩
abbrev s__law_kinds_too : Stmt := topS 52
theorem sc__law_kinds_too : FnScope ["error", "found"] ["error"] (defScope s__law_kinds_too) := ⟨rfl, rfl, rfl, by decide +kernel, rfl, by decide +kernel, by decide +kernel⟩
abbrev s__law_kinds_more : Stmt := topS 53
theorem sc__law_kinds_more : FnScope ["error", "found"] ["error"] (defScope s__law_kinds_more) := ⟨rfl, rfl, rfl, by decide +kernel, rfl, by decide +kernel, by decide +kernel⟩
abbrev s__law_right : Stmt := topS 54
theorem sc__law_right : FnScope ["pot", "lap", "value", "errors", "base", "at", "error"] ["pot"] (defScope s__law_right) := ⟨rfl, rfl, rfl, by decide +kernel, rfl, by decide +kernel, by decide +kernel⟩
abbrev s_law : Stmt := topS 55
theorem sc_law : FnScope ["script", "place"] ["script"] (defScope s_law) := ⟨rfl, rfl, rfl, by decide +kernel, rfl, by decide +kernel, by decide +kernel⟩
/-- the classes' names, in their sequence -/
def ecN : List Str := [("BadBook" : Str), ("BadNumber" : Str), ("BadName" : Str), ("BadStations" : Str), ("BadLinks" : Str), ("NoStation" : Str), ("NoLink" : Str), ("BadLot" : Str), ("BadTicks" : Str), ("TooMany" : Str), ("BadTick" : Str), ("BadNames" : Str), ("BadHeaps" : Str), ("NoFlow" : Str), ("BadMoves" : Str), ("BadCut" : Str), ("BadLevels" : Str), ("NoWay" : Str), ("NotHoming" : Str), ("BadPackets" : Str), ("BadEvent" : Str), ("BadEvents" : Str), ("BadWord" : Str), ("Unfit" : Str), ("NoDoor" : Str), ("TooFew" : Str), ("Held" : Str), ("BadLink" : Str), ("BadStation" : Str), ("NotPart" : Str), ("BadRule" : Str), ("BadDeed" : Str), ("NoNet" : Str), ("Amid" : Str), ("NotEmpty" : Str), ("LastOne" : Str), ("NothingToUndo" : Str), ("NothingToRedo" : Str), ("NoNote" : Str), ("BadDesk" : Str), ("NetError" : Str)]
def bmT : List Value := [.type "ValueError", .type "Exception", .type "BaseException", .type "object"]
def bmOf (cs : Nat → Addr) (i : Nat) : List Value := if i = 40 then bmT else .ref (cs 40) :: bmT
/-- what the top has left -/
structure Txt2 (K : PySem.W.Frag) (mg : Str → Option Value) (cs : Nat → Addr) (fI : Addr) : Prop where
  look : ∀ i nm, ecN[i]? = some nm → ∃ q N bs sn sub ab col dd k0 k1 k2 k3 k5, K.lookup (cs i) = some (excClassObj nm q (cs i) N bs (bmOf cs i) true sn sub ab col dd k0 k1 k2 k3 k5 "ValueError.__new__")
  sa : ∀ i, i < 41 → PySem.W.findIn K (.ref (cs i)) "__setattr__" = some (some (.builtin "object.__setattr__"))
  ga : ∀ i, i < 41 → PySem.W.findIn K (.ref (cs i)) "__getattribute__" = some (some (.builtin "BaseException.__getattribute__"))
  gg : ∀ i, i < 41 → PySem.W.findIn K (.ref (cs i)) "__getattr__" = some none
  cl : ∀ i, i < 41 → PySem.W.findIn K (.ref (cs i)) "__class__" = some (some (.builtin "object.__class__"))
  ini : ∀ i, i < 41 → PySem.W.findIn K (.ref (cs i)) "__init__" = some (some (.ref fI))
  va : ∀ i, i < 41 → PySem.W.findIn K (.ref (cs i)) "value" = some none
  kp : ∀ i, i < 41 → PySem.W.keepIn K (.ref (cs i)) = true
  hn : PySem.W.specialIn K (.builtin "object.__class__") "__get__" = some (some (.builtin "getset_descriptor.__get__"))
  ht : PySem.W.takesIn K (.builtin "object.__class__") = some true
  tI : PySem.W.typeIn K (.ref fI) = some (.type "function")
  g_BadBook : mg "BadBook" = some (.ref (cs 0))
  g_BadNumber : mg "BadNumber" = some (.ref (cs 1))
  g_BadName : mg "BadName" = some (.ref (cs 2))
  g_BadStations : mg "BadStations" = some (.ref (cs 3))
  g_BadLinks : mg "BadLinks" = some (.ref (cs 4))
  g_NoStation : mg "NoStation" = some (.ref (cs 5))
  g_NoLink : mg "NoLink" = some (.ref (cs 6))
  g_BadLot : mg "BadLot" = some (.ref (cs 7))
  g_BadTicks : mg "BadTicks" = some (.ref (cs 8))
  g_TooMany : mg "TooMany" = some (.ref (cs 9))
  g_BadTick : mg "BadTick" = some (.ref (cs 10))
  g_BadNames : mg "BadNames" = some (.ref (cs 11))
  g_BadHeaps : mg "BadHeaps" = some (.ref (cs 12))
  g_NoFlow : mg "NoFlow" = some (.ref (cs 13))
  g_BadMoves : mg "BadMoves" = some (.ref (cs 14))
  g_BadCut : mg "BadCut" = some (.ref (cs 15))
  g_BadLevels : mg "BadLevels" = some (.ref (cs 16))
  g_NoWay : mg "NoWay" = some (.ref (cs 17))
  g_NotHoming : mg "NotHoming" = some (.ref (cs 18))
  g_BadPackets : mg "BadPackets" = some (.ref (cs 19))
  g_BadEvent : mg "BadEvent" = some (.ref (cs 20))
  g_BadEvents : mg "BadEvents" = some (.ref (cs 21))
  g_BadWord : mg "BadWord" = some (.ref (cs 22))
  g_Unfit : mg "Unfit" = some (.ref (cs 23))
  g_NoDoor : mg "NoDoor" = some (.ref (cs 24))
  g_TooFew : mg "TooFew" = some (.ref (cs 25))
  g_Held : mg "Held" = some (.ref (cs 26))
  g_BadLink : mg "BadLink" = some (.ref (cs 27))
  g_BadStation : mg "BadStation" = some (.ref (cs 28))
  g_NotPart : mg "NotPart" = some (.ref (cs 29))
  g_BadRule : mg "BadRule" = some (.ref (cs 30))
  g_BadDeed : mg "BadDeed" = some (.ref (cs 31))
  g_NoNet : mg "NoNet" = some (.ref (cs 32))
  g_Amid : mg "Amid" = some (.ref (cs 33))
  g_NotEmpty : mg "NotEmpty" = some (.ref (cs 34))
  g_LastOne : mg "LastOne" = some (.ref (cs 35))
  g_NothingToUndo : mg "NothingToUndo" = some (.ref (cs 36))
  g_NothingToRedo : mg "NothingToRedo" = some (.ref (cs 37))
  g_NoNote : mg "NoNote" = some (.ref (cs 38))
  g_BadDesk : mg "BadDesk" = some (.ref (cs 39))
  g_NetError : mg "NetError" = some (.ref (cs 40))
  b_isinstance : mg "isinstance" = none
  b_repr : mg "repr" = none
  b_enumerate : mg "enumerate" = none
  b_range : mg "range" = none
  b_all : mg "all" = none
  b_ValueError : mg "ValueError" = none
section
variable {K : PySem.W.Frag} {mg : Str → Option Value} {cs : Nat → Addr} {fI : Addr}
theorem ecN_len : ecN.length = 41 := rfl
theorem Txt2.lk (T : Txt2 K mg cs fI) {i : Nat} (h : i < 41) : ∃ nm q N bs sn sub ab col dd k0 k1 k2 k3 k5, K.lookup (cs i) = some (excClassObj nm q (cs i) N bs (bmOf cs i) true sn sub ab col dd k0 k1 k2 k3 k5 "ValueError.__new__") := by
  have := T.look i _ (List.getElem?_eq_getElem (by rw [ecN_len]; exact h))
  exact ⟨_, this⟩
theorem Txt2.inj (T : Txt2 K mg cs fI) {i j : Nat} (hi : i < 41) (hj : j < 41) (e : cs i = cs j) : i = j := by
  obtain ⟨_, _, _, _, _, _, _, _, _, _, _, _, _, h1⟩ := T.look i _ (List.getElem?_eq_getElem (by rw [ecN_len]; exact hi))
  obtain ⟨_, _, _, _, _, _, _, _, _, _, _, _, _, h2⟩ := T.look j _ (List.getElem?_eq_getElem (by rw [ecN_len]; exact hj))
  rw [e, h2] at h1
  have h3 := congrArg (fun o : Option Obj => match o with | some ⟨_, _, .cls cd, _⟩ => cd.name | _ => "") h1
  have h4 : ecN[j]'(by rw [ecN_len]; exact hj) = ecN[i]'(by rw [ecN_len]; exact hi) := h3
  have nd : ecN.Nodup := by decide +kernel
  exact ((List.getElem_inj nd).mp h4).symm
theorem Txt2.clsIn (T : Txt2 K mg cs fI) {i : Nat} (h : i < 41) : ∃ cd, PySem.W.clsIn K (cs i) = some cd ∧ cd.mro = .ref (cs i) :: bmOf cs i ∧ cd.hasDict = true ∧ PySem.W.typeIn K (.ref (cs i)) = some (.type "type") := by
  obtain ⟨_, _, _, _, _, _, _, _, _, _, _, _, _, _, h1⟩ := T.lk h
  have h2 : PySem.W.typeIn K (.ref (cs i)) = some (.type "type") := by
    show Option.map (fun x : Obj => x.cls) (List.lookup (cs i) K) = _
    rw [h1]
    rfl
  unfold PySem.W.clsIn
  rw [h1]
  exact ⟨_, rfl, rfl, rfl, h2⟩
theorem Txt2.sub (T : Txt2 K mg cs fI) {i : Nat} (h : i < 41) (b : Value) : PySem.W.mroIn K (cs i) b = some ((.ref (cs i) :: bmOf cs i).contains b) := by
  obtain ⟨cd, h1, h2, _⟩ := T.clsIn h
  unfold PySem.W.mroIn
  rw [h1]
  show (if cd.mro.isEmpty = true then none else some (cd.mro.contains b)) = _
  rw [h2]
  rfl
theorem bm_has (i : Nat) (b : Value) (h : bmT.contains b = true) : (Value.ref (cs i) :: bmOf cs i).contains b = true := by
  rw [List.contains_cons, Bool.or_eq_true]
  refine .inr ?_
  unfold bmOf
  split
  · exact h
  · rw [List.contains_cons, h, Bool.or_true]
theorem Txt2.O (T : Txt2 K mg cs fI) {i : Nat} (h : i < 41) : OexC K (cs i) := by
  obtain ⟨nm, q, N, bs, sn, sub, ab, col, dd, k0, k1, k2, k3, k5, h1⟩ := T.lk h
  obtain ⟨cd, c1, c2, c3, c4⟩ := T.clsIn h
  refine ⟨⟨nm, q, N, bs, _, sn, sub, ab, col, dd, k0, k1, k2, k3, k5, h1, ?_⟩, T.sa i h, ?_, c4, T.kp i h⟩
  · unfold bmOf
    split
    · decide +kernel
    · rfl
  · show PySem.W.mroIn K (cs i) _ = _
    rw [T.sub h]
    exact congrArg some (bm_has i _ (by decide +kernel))
theorem Txt2.hd (T : Txt2 K mg cs fI) {i : Nat} (h : i < 41) : PySem.W.hasDictIn K (cs i) = true := by
  obtain ⟨cd, c1, c2, c3, c4⟩ := T.clsIn h
  unfold PySem.W.hasDictIn
  rw [c1]
  exact c3
theorem Txt2.sE (T : Txt2 K mg cs fI) {i : Nat} (h : i < 41) {b : Value} (hb : bmT.contains b = true) : PySem.W.subIn K (.ref (cs i)) b = some true := by
  show PySem.W.mroIn K (cs i) _ = _
  rw [T.sub h]
  exact congrArg some (bm_has i _ hb)
theorem Txt2.E (T : Txt2 K mg cs fI) {i : Nat} (h : i < 41) : ExcC K (cs i) :=
  ⟨T.ga i h, T.gg i h, T.sE h (by decide +kernel), T.hd h, T.cl i h, T.hn, T.ht, by rw [T.sub h]; exact congrArg some (bm_has i _ (by decide +kernel))⟩
theorem Txt2.X (T : Txt2 K mg cs fI) {i : Nat} (h : i < 41) : XfC K (cs i) := ⟨T.ga i h, T.gg i h, T.sE h (by decide +kernel), T.hd h⟩
def isK (i j : Nat) : Bool := decide (i = j) || decide (j = 40)
theorem ref_beq (a b : Addr) : (Value.ref a == Value.ref b) = decide (a = b) := by
  rw [Bool.eq_iff_iff]
  simp
theorem Txt2.kit (T : Txt2 K mg cs fI) {i j : Nat} (hi : i < 41) (hj : j < 41) : PySem.W.kitOne K (.ref (cs i)) (.ref (cs j)) = some (isK i j) := by
  unfold PySem.W.kitOne
  have ie : (decide (cs i = cs j)) = decide (i = j) := by
    by_cases z : i = j
    · subst z; simp
    · rw [decide_eq_false z, decide_eq_false fun e => z (T.inj hi hj e)]
  rw [ref_beq, ie]
  by_cases z : i = j
  · subst z
    simp [isK]
  · rw [if_neg (by simp [z])]
    unfold PySem.W.kitCls
    obtain ⟨cd, c1, c2, c3, c4⟩ := T.clsIn hj
    simp only [c1, c4]
    rw [if_pos (by simp)]
    show PySem.W.mroIn K (cs i) _ = _
    rw [T.sub hi, List.contains_cons, ref_beq, decide_eq_false (fun e => z (T.inj hi hj e.symm)), Bool.false_or]
    have hb : ∀ c : Addr, bmT.contains (Value.ref c) = false := fun c => rfl
    unfold isK
    rw [decide_eq_false z, Bool.false_or]
    unfold bmOf
    split
    · rw [hb, decide_eq_false (by omega)]
    · rw [List.contains_cons, hb, Bool.or_false, ref_beq]
      by_cases y : j = 40
      · subst y; simp
      · rw [decide_eq_false y, decide_eq_false fun e => y (T.inj hj (by decide) e)]
theorem Txt2.kitV (T : Txt2 K mg cs fI) {i : Nat} (hi : i < 41) : PySem.W.kitOne K (.ref (cs i)) (.type "ValueError") = some true := by
  unfold PySem.W.kitOne
  rw [if_neg (by simp)]
  show (if PySem.W.kitMeta "ValueError" = true then PySem.W.subIn K (.ref (cs i)) (.type "ValueError") else none) = _
  rw [if_pos (by decide +kernel)]
  exact T.sE hi (by decide +kernel)
variable {ρ : Option Addr} {δ : Dl} {te : TE} {tA : TA} {d : D} {i j : Nat}
theorem ed_exT (T : Txt2 K mg cs fI) (hi : i < 41) (h : EDA ρ K tA δ [d]) : ED ρ K (tExV (spInit K) (cs i) tA) δ (.exc (cs i) d) := ed_exV h (T.O hi) (T.va i hi)
theorem ed_isT (T : Txt2 K mg cs fI) (hi : i < 41) (hj : j < 41) (h : ED ρ K te δ (.exc (cs i) d)) : ED ρ K (tCB (rIsX K) (tCons te (tCons (tC (.ref (cs j))) tNil))) δ (.bl (isK i j)) := ed_cb (eda_cons h (eda_cons ed_opq eda_nil)) (cj_isX (T.E hi) (.own _) (T.kit hi hj))
theorem ed_isV (T : Txt2 K mg cs fI) (hi : i < 41) (h : ED ρ K te δ (.exc (cs i) d)) : ED ρ K (tCB (rIsX K) (tCons te (tCons (tC (.ty "ValueError")) tNil))) δ (.bl true) := ed_cb (eda_cons h (eda_cons ed_opq eda_nil)) (cj_isX (T.E hi) (.ty _) (T.kitV hi))
theorem ed_errT (T : Txt2 K mg cs fI) (hi : i < 41) (h : ED ρ K te δ (.exc (cs i) d)) : ED ρ K (tErr K "value" te) δ d := ed_err h (T.X hi) (T.va i hi)
end
/-- the initializer, at hand -/
structure Ini (P : Program) (w : World) (K : PySem.W.Frag) (mg : Str → Option Value) (base : Heap) (fI : Addr) : Prop where
  ex : ∃ fd, FnOk P w K mg base CX0 1 fI fd ["self", "value"] (spInit K) ∧ Binds K fd ["self", "value"] []
theorem pe_mk {X : Cx} {cs : Nat → Addr} {fI : Addr} {x : Str} {e : Expr} {es : List Expr} {ta : TA} {p pos : Pos} (T : Txt2 X.K X.mg cs fI) (I : Ini X.prog X.w X.K X.mg X.base fI) {k : Nat} (hr : Room (k + 2) X.A) (i : Nat) (hm : X.mg x = some (.ref (cs i)) ∧ i < 41) (hg : Gl X x) (ha : PA X (e :: es) ta)
    (hdb : (x == ("__debug__" : Str)) = false := by decide) (h1 : starEach (e :: es) X.env = (false, eval e X.env) :: starEach es X.env := by rfl) (h2 : (backTo pos (starEach es X.env)).any (·.1) = false := by rfl) : PE X (.Call (.Name x p) (e :: es) [] pos) (tExV (spInit X.K) (cs i) ta) := by
  obtain ⟨fd, F, b⟩ := I.ex
  exact pe_exV (T.O hm.2) (T.ini i hm.2) T.tI F (hr.mono (by omega)) b pass0 hg hm.1 ha hdb h1 h2
end DN

namespace DN
open PySem PySem.Spec PyProof.Rows L2
local macro_rules | `(tactic| walk_at "side") => `(tactic| first | omega | decide | assumption | (refine wide_mul (a := 400) (b := 400) ?_ ?_ (by decide) (by decide) (by decide) <;> omega) | (refine wide_div (b := 400) ?_ ?_ (by decide) (by decide) <;> omega) | (refine powW_of (a := 400) ?_ (by decide) (by decide) (by decide); omega))
local macro_rules | `(tactic| walk_at "rj") => `(tactic| first | exact rj_I0 | exact rj_B0 | (apply rj_I; (· walk_at "side")) | exact rj_eqI | exact rj_neI | exact rj_eqS | exact rj_neS | exact rj_eq rfl | exact rj_ne rfl | exact rj_ixL rfl | exact rj_ixT rfl)
local macro_rules | `(tactic| walk_at "cj") => `(tactic| first | exact cj_len | exact cj_lenT | exact cj_abs | exact cj_int | exact cj_intB | exact cj_max2 | exact cj_min2 | exact cj_tupL | exact cj_tupT | exact cj_sum)
local macro_rules | `(tactic| walk_at "eda") => `(tactic| first | exact eda_nil | (apply eda_cons; (· walk_at "ed"); (· walk_at "eda")))
local macro_rules | `(tactic| walk_at "ed") => `(tactic| first | exact ed_int | exact ed_str | exact ed_bl | exact ed_non | exact ed_var rfl | (apply ed_op; (· walk_at "ed"); (· walk_at "ed"); (· walk_at "rj")) | (apply ed_cb; (· walk_at "eda"); (· walk_at "cj")) | (apply ed_tup; (· walk_at "eda"); (· walk_at "side")) | (apply ed_lst; (· walk_at "eda"); (· walk_at "side")) | (apply ed_notV; (· walk_at "ed")))
local macro_rules | `(tactic| walk_at "eb") => `(tactic| first | (apply eb_test; (· walk_at "ed")) | (apply eb_B; (· walk_at "ed")) | (apply eb_not; (· walk_at "eb")))

local macro_rules | `(tactic| walk_at "ed") => `(tactic| first | (apply ed_exT (by assumption); (· decide); (· walk_at "eda")) | (apply ed_isT (by assumption); (· assumption); (· decide); (· walk_at "ed")) | (apply ed_un; (· walk_at "ed"); (· exact uj_neg)) | (apply EN.ej; (exact en_dnil)) | (apply EN.ej; apply ed_disp1; (walk_at "ed")))
theorem ex_k {ρ : Option Addr} {K : PySem.W.Frag} {E : XK} {ts : TS} {δ : Dl} {k c : Nat} {PO : Out → Prop} (h : SJ ρ K E ts δ k PO) (hk : k ≤ c) : ∃ k, k ≤ c ∧ SJ ρ K E ts δ k PO := ⟨k, hk, h⟩
theorem ed_pow {ρ : Option Addr} {K : PySem.W.Frag} {δ : Dl} {i j : Int} (h : CPowW i j) : ED ρ K (tOp (rI CPowW fun i j => .int (i ^ j.toNat)) (tC (.int i)) (tC (.int j))) δ (.int (i ^ j.toNat)) := ed_op ed_int ed_int (rj_I h)
section
variable {P : Program} {w : World} {K : PySem.W.Frag} {mg : Str → Option Value} {base : Heap} {cs : Nat → Addr} {fI : Addr}
theorem ok_init {f : Addr} {fd : FuncData} (F : Fun K "__init__" "NetError.__init__" s_NetError___init__ f fd) : FnOk P w K mg base CX0 1 f fd ["self", "value"] (spInit K) := by
  refine F.ok sc_NetError___init__ (fun vs H Q E h => ?_) (fun cdv A outer s H vs Q E hr h => ?_)
  · obtain ⟨a, C, v, rfl, _⟩ := h
    rfl
  obtain ⟨a, C, v, rfl, O, hno, ha, q⟩ := h
  refine ⟨_, pss_one (ps_ost (pv 0) (pv 1) rfl), ?_⟩
  exact ⟨v, rfl, .ref a, rfl, a, C, rfl, O, hno, .inl ⟨ha, fun dx h1 h2 => q dx h1 h2⟩⟩

/-! a value of any kind -/
def odds1 : List D := [.non, .bl true, .bl false, .int 0, .int (-1), .str "", .str "A", .str "a b", .tup [], .lst [], .dct [], .tup [.tup []], .tup [.non], .lst [.int 0], .tup [.int 0], .tup [.str "a"], .tup [.tup [.int 0, .int 1]]]
def odds2 : List D := [.tup [.str "a", .str "b"], .lst [.str "a"], .dct [(.inr "a", .int 1)], .int (10 ^ (30 : Int).toNat), .int (-7), .tup [.str "b", .str "a"], .tup [.str "a", .str "a"], .str "toolongname"]
def odds : List D := odds1 ++ odds2
def prePot : Option Addr → List D → Prop := fun ρ ds => ∃ a, ρ = some a ∧ ds = [.opq (.ref a)]
abbrev spOdd (K : PySem.W.Frag) : Sp := spJ K 1 prePot 1 (fun _ d => d ∈ odds)
theorem ok_odd {f : Addr} {fd : FuncData} (F : Fun K "_law_odd" "_law_odd" s__law_odd f fd) (c__law_of : C8.Cal P w K mg base 2 "_law_of" (spOf K) []) : FnOk P w K mg base CX0 3 f fd ["pot"] (spOdd K) := by
  refine F.ok sc__law_odd (fun vs H Q E h => spJ_len h) (fun cdv A outer s H vs Q E hr h => ?_)
  refine ⟨_, (pss_cons (ps_set (i := 1) sc__law_odd.nd rfl (by first | exact Or.inl rfl | exact Or.inr rfl) (pe_lst (pa_cons pe_non (pa_cons pe_bl (pa_cons pe_bl (pa_cons pe_int (pa_cons (pe_un un_neg pe_int) (pa_cons pe_str (pa_cons pe_str (pa_cons pe_str (pa_cons (pe_tup pa_nil) (pa_cons (pe_lst pa_nil) (pa_cons pe_dnewK (pa_cons (pe_tup (pa_cons (pe_tup pa_nil) pa_nil)) (pa_cons (pe_tup (pa_cons pe_non pa_nil)) (pa_cons (pe_lst (pa_cons pe_int pa_nil)) (pa_cons (pe_tup (pa_cons pe_int pa_nil)) (pa_cons (pe_tup (pa_cons pe_str pa_nil)) (pa_cons (pe_tup (pa_cons (pe_tup (pa_cons pe_int (pa_cons pe_int pa_nil))) pa_nil)) pa_nil)))))))))))))))))))
 (pss_one (ps_ret (C8.pe_c c__law_of hr (by omega) (by rfl) (pa_cons (pv 0) (pa_cons (pe_op op_cat (pv 1) (pe_lst (pa_cons (pe_tup (pa_cons pe_str (pa_cons pe_str pa_nil))) (pa_cons (pe_lst (pa_cons pe_str pa_nil)) (pa_cons (pe_disp (pps_cons pe_str pe_int pps_nil) (by rfl) (by rfl) (fun z => by cases z) (by decide)) (pa_cons (pe_op op_powW pe_int pe_int) (pa_cons (pe_un un_neg pe_int) (pa_cons (pe_tup (pa_cons pe_str (pa_cons pe_str pa_nil))) (pa_cons (pe_tup (pa_cons pe_str (pa_cons pe_str pa_nil))) (pa_cons pe_str pa_nil)))))))))) pa_nil)))))), body_of (n := 1) (fun ρ ds hl hp => ?_) h⟩
  obtain ⟨a, rfl, rfl⟩ := hp
  try dsimp only [cxOf, Cx.nox, Cx.wish]
  apply ex_k
  · apply sj_set (k1 := 0)
    · walk_at "ed"
    rintro _ rfl
    apply sj_retP (P := fun d => d ∈ odds) (k := 0 + 1)
    · apply ej_call (PA := (· = [.opq (.ref a), .lst odds]))
      · apply eda_cons
        · exact ed_var rfl
        apply eda_cons
        · apply EN.ej
          apply en_catE (ds := odds1) (es := odds2)
          · exact ed_var rfl
          · apply ed_lst
            · apply eda_cons (by walk_at "ed")
              apply eda_cons (by walk_at "ed")
              apply eda_cons (by walk_at "ed")
              apply eda_cons (ed_pow ⟨by decide, by decide +kernel⟩)
              walk_at "eda"
            · decide
          · decide
        exact eda_nil
      · rintro _ rfl
        exact ⟨rfl, a, .lst odds, rfl, rfl, .inl ⟨_, rfl, by decide, by decide⟩⟩
      · rintro _ d rfl hd
        exact hd.1 _ _ rfl
    · exact fun d hd => .inl ⟨d, rfl, hd⟩
  · decide
end
end DN

namespace DN
open PySem PySem.Spec PyProof.Rows L2
local macro_rules | `(tactic| walk_at "side") => `(tactic| first | omega | decide | assumption | (refine wide_mul (a := 400) (b := 400) ?_ ?_ (by decide) (by decide) (by decide) <;> omega) | (refine wide_div (b := 400) ?_ ?_ (by decide) (by decide) <;> omega) | (refine powW_of (a := 400) ?_ (by decide) (by decide) (by decide); omega))
local macro_rules | `(tactic| walk_at "rj") => `(tactic| first | exact rj_I0 | exact rj_B0 | (apply rj_I; (· walk_at "side")) | exact rj_eqI | exact rj_neI | exact rj_eqS | exact rj_neS | exact rj_eq rfl | exact rj_ne rfl | exact rj_ixL rfl | exact rj_ixT rfl)
local macro_rules | `(tactic| walk_at "cj") => `(tactic| first | exact cj_len | exact cj_lenT | exact cj_abs | exact cj_int | exact cj_intB | exact cj_max2 | exact cj_min2 | exact cj_tupL | exact cj_tupT | exact cj_sum)
local macro_rules | `(tactic| walk_at "eda") => `(tactic| first | exact eda_nil | (apply eda_cons; (· walk_at "ed"); (· walk_at "eda")))
local macro_rules | `(tactic| walk_at "ed") => `(tactic| first | exact ed_int | exact ed_str | exact ed_bl | exact ed_non | exact ed_var rfl | (apply ed_op; (· walk_at "ed"); (· walk_at "ed"); (· walk_at "rj")) | (apply ed_cb; (· walk_at "eda"); (· walk_at "cj")) | (apply ed_tup; (· walk_at "eda"); (· walk_at "side")) | (apply ed_lst; (· walk_at "eda"); (· walk_at "side")) | (apply ed_notV; (· walk_at "ed")))
local macro_rules | `(tactic| walk_at "eb") => `(tactic| first | (apply eb_test; (· walk_at "ed")) | (apply eb_B; (· walk_at "ed")) | (apply eb_not; (· walk_at "eb")))

local macro_rules | `(tactic| walk_at "ed") => `(tactic| first | (apply ed_exT (by assumption); (· decide); (· walk_at "eda")) | (apply ed_isT (by assumption); (· assumption); (· decide); (· walk_at "ed")) | (apply ed_un; (· walk_at "ed"); (· exact uj_neg)) | (apply EN.ej; (exact en_dnil)) | (apply EN.ej; apply ed_disp1; (walk_at "ed")))
def mkE (cs : Nat → Addr) (d : D) (l : List Nat) : List D := l.map fun i => .exc (cs i) d
def bK (i : Nat) (l : List Nat) : List Bool := l.map (isK i)
def lOne : List Nat := [0, 1, 2, 3, 4, 5, 6, 7, 8, 9, 10, 11, 12, 13]
def lToo : List Nat := [14, 15, 16, 17, 18, 19, 20, 21, 22, 23, 24, 25, 26, 27]
def lMore : List Nat := [28, 29, 30, 31, 32, 33, 34, 35, 36, 37, 38, 39]
def lAll : List Nat := lOne ++ lToo ++ lMore
abbrev preOne : Option Addr → List D → Prop := fun _ ds => ∃ d, ds = [d]
abbrev spMade (K : PySem.W.Frag) (cs : Nat → Addr) (l : List Nat) : Sp := spJ K 1 preOne 0 (fun ds r => ∀ d, ds = [d] → r = .lst (mkE cs d l))
abbrev preErr (cs : Nat → Addr) : Option Addr → List D → Prop := fun _ ds => ∃ i d, i < 41 ∧ ds = [.exc (cs i) d]
abbrev spKinds (K : PySem.W.Frag) (cs : Nat → Addr) (l : List Nat) : Sp := spJ K 1 (preErr cs) 0 (fun ds r => ∀ i d, i < 41 → ds = [.exc (cs i) d] → r = .lst ((bK i l).map D.bl))
theorem en_lstE {ρ : Option Addr} {K : PySem.W.Frag} {δ : Dl} {tA : TA} {ds : List D} (h : EDA ρ K tA δ ds) (hl : ds.length ≤ 1000000) : EN ρ K (tLst tA) δ 0 (· = .lst ds) := en_lst h (fun x e => by subst e; exact hl) fun x e => by subst e; rfl
section
variable {P : Program} {w : World} {K : PySem.W.Frag} {mg : Str → Option Value} {base : Heap} {cs : Nat → Addr} {fI : Addr}
theorem ok_law_made_too {f : Addr} {fd : FuncData} (F : Fun K "_law_made_too" "_law_made_too" s__law_made_too f fd) (T : Txt2 K mg cs fI) (I : Ini P w K mg base fI) : FnOk P w K mg base CX0 3 f fd ["value"] (spMade K cs lToo) := by
  refine F.ok sc__law_made_too (fun vs H Q E h => spJ_len h) (fun cdv A outer s H vs Q E hr h => ?_)
  refine ⟨_, (pss_cons (ps_set (i := 1) sc__law_made_too.nd rfl (by first | exact Or.inl rfl | exact Or.inr rfl) (pe_lst (pa_cons (pe_mk T I hr 14 ⟨T.g_BadMoves, by decide⟩ (by rfl) (pa_cons (pv 0) pa_nil)) (pa_cons (pe_mk T I hr 15 ⟨T.g_BadCut, by decide⟩ (by rfl) (pa_cons (pv 0) pa_nil)) (pa_cons (pe_mk T I hr 16 ⟨T.g_BadLevels, by decide⟩ (by rfl) (pa_cons (pv 0) pa_nil)) (pa_cons (pe_mk T I hr 17 ⟨T.g_NoWay, by decide⟩ (by rfl) (pa_cons (pv 0) pa_nil)) (pa_cons (pe_mk T I hr 18 ⟨T.g_NotHoming, by decide⟩ (by rfl) (pa_cons (pv 0) pa_nil)) pa_nil)))))))
 (pss_cons (ps_expr (pe_bm PySem.F.plainAttrs_list PySem.F.slot_list_extend PySem.F.type_list_extend mt_extend (pv 1) (pa_cons (pe_lst (pa_cons (pe_mk T I hr 19 ⟨T.g_BadPackets, by decide⟩ (by rfl) (pa_cons (pv 0) pa_nil)) (pa_cons (pe_mk T I hr 20 ⟨T.g_BadEvent, by decide⟩ (by rfl) (pa_cons (pv 0) pa_nil)) (pa_cons (pe_mk T I hr 21 ⟨T.g_BadEvents, by decide⟩ (by rfl) (pa_cons (pv 0) pa_nil)) (pa_cons (pe_mk T I hr 22 ⟨T.g_BadWord, by decide⟩ (by rfl) (pa_cons (pv 0) pa_nil)) (pa_cons (pe_mk T I hr 23 ⟨T.g_Unfit, by decide⟩ (by rfl) (pa_cons (pv 0) pa_nil)) pa_nil)))))) pa_nil)))
 (pss_cons (ps_expr (pe_bm PySem.F.plainAttrs_list PySem.F.slot_list_extend PySem.F.type_list_extend mt_extend (pv 1) (pa_cons (pe_lst (pa_cons (pe_mk T I hr 24 ⟨T.g_NoDoor, by decide⟩ (by rfl) (pa_cons (pv 0) pa_nil)) (pa_cons (pe_mk T I hr 25 ⟨T.g_TooFew, by decide⟩ (by rfl) (pa_cons (pv 0) pa_nil)) (pa_cons (pe_mk T I hr 26 ⟨T.g_Held, by decide⟩ (by rfl) (pa_cons (pv 0) pa_nil)) (pa_cons (pe_mk T I hr 27 ⟨T.g_BadLink, by decide⟩ (by rfl) (pa_cons (pv 0) pa_nil)) pa_nil))))) pa_nil)))
 (pss_one (ps_ret (pv 1)))))), body_of (n := 1) (fun ρ ds hl hp => ?_) h⟩
  obtain ⟨d, rfl⟩ := hp
  apply ex_k
  · apply sj_new
    · exact en_lstE (by walk_at "eda") (by show 5 ≤ 1000000; decide)
    rintro _ rfl
    apply sj_ext rfl
    · apply ed_lst
      · walk_at "eda"
      · show 5 ≤ 1000000
        decide
    · show 5 + 5 ≤ 1000000
      decide
    apply sj_ext rfl
    · apply ed_lst
      · walk_at "eda"
      · show 4 ≤ 1000000
        decide
    · show 10 + 4 ≤ 1000000
      decide
    apply sj_frz 1 rfl
    apply sj_retP
    · exact ed_var rfl
    rintro _ rfl
    exact .inl ⟨_, rfl, fun d' e => by cases e; rfl⟩
  · decide
theorem ok_law_made_more {f : Addr} {fd : FuncData} (F : Fun K "_law_made_more" "_law_made_more" s__law_made_more f fd) (T : Txt2 K mg cs fI) (I : Ini P w K mg base fI) : FnOk P w K mg base CX0 3 f fd ["value"] (spMade K cs lMore) := by
  refine F.ok sc__law_made_more (fun vs H Q E h => spJ_len h) (fun cdv A outer s H vs Q E hr h => ?_)
  refine ⟨_, (pss_cons (ps_set (i := 1) sc__law_made_more.nd rfl (by first | exact Or.inl rfl | exact Or.inr rfl) (pe_lst (pa_cons (pe_mk T I hr 28 ⟨T.g_BadStation, by decide⟩ (by rfl) (pa_cons (pv 0) pa_nil)) (pa_cons (pe_mk T I hr 29 ⟨T.g_NotPart, by decide⟩ (by rfl) (pa_cons (pv 0) pa_nil)) (pa_cons (pe_mk T I hr 30 ⟨T.g_BadRule, by decide⟩ (by rfl) (pa_cons (pv 0) pa_nil)) (pa_cons (pe_mk T I hr 31 ⟨T.g_BadDeed, by decide⟩ (by rfl) (pa_cons (pv 0) pa_nil)) (pa_cons (pe_mk T I hr 32 ⟨T.g_NoNet, by decide⟩ (by rfl) (pa_cons (pv 0) pa_nil)) (pa_cons (pe_mk T I hr 33 ⟨T.g_Amid, by decide⟩ (by rfl) (pa_cons (pv 0) pa_nil)) pa_nil))))))))
 (pss_cons (ps_expr (pe_bm PySem.F.plainAttrs_list PySem.F.slot_list_extend PySem.F.type_list_extend mt_extend (pv 1) (pa_cons (pe_lst (pa_cons (pe_mk T I hr 34 ⟨T.g_NotEmpty, by decide⟩ (by rfl) (pa_cons (pv 0) pa_nil)) (pa_cons (pe_mk T I hr 35 ⟨T.g_LastOne, by decide⟩ (by rfl) (pa_cons (pv 0) pa_nil)) (pa_cons (pe_mk T I hr 36 ⟨T.g_NothingToUndo, by decide⟩ (by rfl) (pa_cons (pv 0) pa_nil)) (pa_cons (pe_mk T I hr 37 ⟨T.g_NothingToRedo, by decide⟩ (by rfl) (pa_cons (pv 0) pa_nil)) (pa_cons (pe_mk T I hr 38 ⟨T.g_NoNote, by decide⟩ (by rfl) (pa_cons (pv 0) pa_nil)) pa_nil)))))) pa_nil)))
 (pss_cons (ps_expr (pe_bm PySem.F.plainAttrs_list PySem.F.slot_list_extend PySem.F.type_list_extend mt_extend (pv 1) (pa_cons (pe_lst (pa_cons (pe_mk T I hr 39 ⟨T.g_BadDesk, by decide⟩ (by rfl) (pa_cons (pv 0) pa_nil)) pa_nil)) pa_nil)))
 (pss_one (ps_ret (pv 1)))))), body_of (n := 1) (fun ρ ds hl hp => ?_) h⟩
  obtain ⟨d, rfl⟩ := hp
  apply ex_k
  · apply sj_new
    · exact en_lstE (by walk_at "eda") (by show 6 ≤ 1000000; decide)
    rintro _ rfl
    apply sj_ext rfl
    · apply ed_lst
      · walk_at "eda"
      · show 5 ≤ 1000000
        decide
    · show 6 + 5 ≤ 1000000
      decide
    apply sj_ext rfl
    · apply ed_lst
      · walk_at "eda"
      · show 1 ≤ 1000000
        decide
    · show 11 + 1 ≤ 1000000
      decide
    apply sj_frz 1 rfl
    apply sj_retP
    · exact ed_var rfl
    rintro _ rfl
    exact .inl ⟨_, rfl, fun d' e => by cases e; rfl⟩
  · decide
theorem ok_law_kinds_too {f : Addr} {fd : FuncData} (F : Fun K "_law_kinds_too" "_law_kinds_too" s__law_kinds_too f fd) (T : Txt2 K mg cs fI) : FnOk P w K mg base CX0 1 f fd ["error"] (spKinds K cs lToo) := by
  refine F.ok sc__law_kinds_too (fun vs H Q E h => spJ_len h) (fun cdv A outer s H vs Q E hr h => ?_)
  refine ⟨_, (pss_cons (ps_set (i := 1) sc__law_kinds_too.nd rfl (by first | exact Or.inl rfl | exact Or.inr rfl) (pe_lst (pa_cons (pe_callB call_isX (by rfl) T.b_isinstance (by decide +kernel) (pa_cons (pv 0) (pa_cons (pe_glob (v := .ref (cs 14)) (by rfl) T.g_BadMoves rfl) pa_nil))) (pa_cons (pe_callB call_isX (by rfl) T.b_isinstance (by decide +kernel) (pa_cons (pv 0) (pa_cons (pe_glob (v := .ref (cs 15)) (by rfl) T.g_BadCut rfl) pa_nil))) (pa_cons (pe_callB call_isX (by rfl) T.b_isinstance (by decide +kernel) (pa_cons (pv 0) (pa_cons (pe_glob (v := .ref (cs 16)) (by rfl) T.g_BadLevels rfl) pa_nil))) pa_nil)))))
 (pss_cons (ps_expr (pe_bm PySem.F.plainAttrs_list PySem.F.slot_list_extend PySem.F.type_list_extend mt_extend (pv 1) (pa_cons (pe_lst (pa_cons (pe_callB call_isX (by rfl) T.b_isinstance (by decide +kernel) (pa_cons (pv 0) (pa_cons (pe_glob (v := .ref (cs 17)) (by rfl) T.g_NoWay rfl) pa_nil))) (pa_cons (pe_callB call_isX (by rfl) T.b_isinstance (by decide +kernel) (pa_cons (pv 0) (pa_cons (pe_glob (v := .ref (cs 18)) (by rfl) T.g_NotHoming rfl) pa_nil))) (pa_cons (pe_callB call_isX (by rfl) T.b_isinstance (by decide +kernel) (pa_cons (pv 0) (pa_cons (pe_glob (v := .ref (cs 19)) (by rfl) T.g_BadPackets rfl) pa_nil))) pa_nil)))) pa_nil)))
 (pss_cons (ps_expr (pe_bm PySem.F.plainAttrs_list PySem.F.slot_list_extend PySem.F.type_list_extend mt_extend (pv 1) (pa_cons (pe_lst (pa_cons (pe_callB call_isX (by rfl) T.b_isinstance (by decide +kernel) (pa_cons (pv 0) (pa_cons (pe_glob (v := .ref (cs 20)) (by rfl) T.g_BadEvent rfl) pa_nil))) (pa_cons (pe_callB call_isX (by rfl) T.b_isinstance (by decide +kernel) (pa_cons (pv 0) (pa_cons (pe_glob (v := .ref (cs 21)) (by rfl) T.g_BadEvents rfl) pa_nil))) (pa_cons (pe_callB call_isX (by rfl) T.b_isinstance (by decide +kernel) (pa_cons (pv 0) (pa_cons (pe_glob (v := .ref (cs 22)) (by rfl) T.g_BadWord rfl) pa_nil))) pa_nil)))) pa_nil)))
 (pss_cons (ps_expr (pe_bm PySem.F.plainAttrs_list PySem.F.slot_list_extend PySem.F.type_list_extend mt_extend (pv 1) (pa_cons (pe_lst (pa_cons (pe_callB call_isX (by rfl) T.b_isinstance (by decide +kernel) (pa_cons (pv 0) (pa_cons (pe_glob (v := .ref (cs 23)) (by rfl) T.g_Unfit rfl) pa_nil))) (pa_cons (pe_callB call_isX (by rfl) T.b_isinstance (by decide +kernel) (pa_cons (pv 0) (pa_cons (pe_glob (v := .ref (cs 24)) (by rfl) T.g_NoDoor rfl) pa_nil))) (pa_cons (pe_callB call_isX (by rfl) T.b_isinstance (by decide +kernel) (pa_cons (pv 0) (pa_cons (pe_glob (v := .ref (cs 25)) (by rfl) T.g_TooFew rfl) pa_nil))) pa_nil)))) pa_nil)))
 (pss_cons (ps_expr (pe_bm PySem.F.plainAttrs_list PySem.F.slot_list_extend PySem.F.type_list_extend mt_extend (pv 1) (pa_cons (pe_lst (pa_cons (pe_callB call_isX (by rfl) T.b_isinstance (by decide +kernel) (pa_cons (pv 0) (pa_cons (pe_glob (v := .ref (cs 26)) (by rfl) T.g_Held rfl) pa_nil))) (pa_cons (pe_callB call_isX (by rfl) T.b_isinstance (by decide +kernel) (pa_cons (pv 0) (pa_cons (pe_glob (v := .ref (cs 27)) (by rfl) T.g_BadLink rfl) pa_nil))) pa_nil))) pa_nil)))
 (pss_one (ps_ret (pv 1)))))))), body_of (n := 1) (fun ρ ds hl hp => ?_) h⟩
  obtain ⟨i, d, hi, rfl⟩ := hp
  apply ex_k
  · apply sj_new
    · exact en_lstE (by walk_at "eda") (by show 3 ≤ 1000000; decide)
    rintro _ rfl
    apply sj_ext rfl
    · apply ed_lst
      · walk_at "eda"
      · show 3 ≤ 1000000
        decide
    · show 3 + 3 ≤ 1000000
      decide
    apply sj_ext rfl
    · apply ed_lst
      · walk_at "eda"
      · show 3 ≤ 1000000
        decide
    · show 6 + 3 ≤ 1000000
      decide
    apply sj_ext rfl
    · apply ed_lst
      · walk_at "eda"
      · show 3 ≤ 1000000
        decide
    · show 9 + 3 ≤ 1000000
      decide
    apply sj_ext rfl
    · apply ed_lst
      · walk_at "eda"
      · show 2 ≤ 1000000
        decide
    · show 12 + 2 ≤ 1000000
      decide
    apply sj_frz 1 rfl
    apply sj_retP
    · exact ed_var rfl
    rintro _ rfl
    refine .inl ⟨_, rfl, fun i' d' hi' e => ?_⟩
    injection e with e1 e2
    injection e1 with e3 e4
    have := T.inj hi hi' e3
    subst this
    rfl
  · decide
theorem ok_law_kinds_more {f : Addr} {fd : FuncData} (F : Fun K "_law_kinds_more" "_law_kinds_more" s__law_kinds_more f fd) (T : Txt2 K mg cs fI) : FnOk P w K mg base CX0 1 f fd ["error"] (spKinds K cs lMore) := by
  refine F.ok sc__law_kinds_more (fun vs H Q E h => spJ_len h) (fun cdv A outer s H vs Q E hr h => ?_)
  refine ⟨_, (pss_cons (ps_set (i := 1) sc__law_kinds_more.nd rfl (by first | exact Or.inl rfl | exact Or.inr rfl) (pe_lst (pa_cons (pe_callB call_isX (by rfl) T.b_isinstance (by decide +kernel) (pa_cons (pv 0) (pa_cons (pe_glob (v := .ref (cs 28)) (by rfl) T.g_BadStation rfl) pa_nil))) (pa_cons (pe_callB call_isX (by rfl) T.b_isinstance (by decide +kernel) (pa_cons (pv 0) (pa_cons (pe_glob (v := .ref (cs 29)) (by rfl) T.g_NotPart rfl) pa_nil))) (pa_cons (pe_callB call_isX (by rfl) T.b_isinstance (by decide +kernel) (pa_cons (pv 0) (pa_cons (pe_glob (v := .ref (cs 30)) (by rfl) T.g_BadRule rfl) pa_nil))) pa_nil)))))
 (pss_cons (ps_expr (pe_bm PySem.F.plainAttrs_list PySem.F.slot_list_extend PySem.F.type_list_extend mt_extend (pv 1) (pa_cons (pe_lst (pa_cons (pe_callB call_isX (by rfl) T.b_isinstance (by decide +kernel) (pa_cons (pv 0) (pa_cons (pe_glob (v := .ref (cs 31)) (by rfl) T.g_BadDeed rfl) pa_nil))) (pa_cons (pe_callB call_isX (by rfl) T.b_isinstance (by decide +kernel) (pa_cons (pv 0) (pa_cons (pe_glob (v := .ref (cs 32)) (by rfl) T.g_NoNet rfl) pa_nil))) (pa_cons (pe_callB call_isX (by rfl) T.b_isinstance (by decide +kernel) (pa_cons (pv 0) (pa_cons (pe_glob (v := .ref (cs 33)) (by rfl) T.g_Amid rfl) pa_nil))) pa_nil)))) pa_nil)))
 (pss_cons (ps_expr (pe_bm PySem.F.plainAttrs_list PySem.F.slot_list_extend PySem.F.type_list_extend mt_extend (pv 1) (pa_cons (pe_lst (pa_cons (pe_callB call_isX (by rfl) T.b_isinstance (by decide +kernel) (pa_cons (pv 0) (pa_cons (pe_glob (v := .ref (cs 34)) (by rfl) T.g_NotEmpty rfl) pa_nil))) (pa_cons (pe_callB call_isX (by rfl) T.b_isinstance (by decide +kernel) (pa_cons (pv 0) (pa_cons (pe_glob (v := .ref (cs 35)) (by rfl) T.g_LastOne rfl) pa_nil))) (pa_cons (pe_callB call_isX (by rfl) T.b_isinstance (by decide +kernel) (pa_cons (pv 0) (pa_cons (pe_glob (v := .ref (cs 36)) (by rfl) T.g_NothingToUndo rfl) pa_nil))) pa_nil)))) pa_nil)))
 (pss_cons (ps_expr (pe_bm PySem.F.plainAttrs_list PySem.F.slot_list_extend PySem.F.type_list_extend mt_extend (pv 1) (pa_cons (pe_lst (pa_cons (pe_callB call_isX (by rfl) T.b_isinstance (by decide +kernel) (pa_cons (pv 0) (pa_cons (pe_glob (v := .ref (cs 37)) (by rfl) T.g_NothingToRedo rfl) pa_nil))) (pa_cons (pe_callB call_isX (by rfl) T.b_isinstance (by decide +kernel) (pa_cons (pv 0) (pa_cons (pe_glob (v := .ref (cs 38)) (by rfl) T.g_NoNote rfl) pa_nil))) (pa_cons (pe_callB call_isX (by rfl) T.b_isinstance (by decide +kernel) (pa_cons (pv 0) (pa_cons (pe_glob (v := .ref (cs 39)) (by rfl) T.g_BadDesk rfl) pa_nil))) pa_nil)))) pa_nil)))
 (pss_one (ps_ret (pv 1))))))), body_of (n := 1) (fun ρ ds hl hp => ?_) h⟩
  obtain ⟨i, d, hi, rfl⟩ := hp
  apply ex_k
  · apply sj_new
    · exact en_lstE (by walk_at "eda") (by show 3 ≤ 1000000; decide)
    rintro _ rfl
    apply sj_ext rfl
    · apply ed_lst
      · walk_at "eda"
      · show 3 ≤ 1000000
        decide
    · show 3 + 3 ≤ 1000000
      decide
    apply sj_ext rfl
    · apply ed_lst
      · walk_at "eda"
      · show 3 ≤ 1000000
        decide
    · show 6 + 3 ≤ 1000000
      decide
    apply sj_ext rfl
    · apply ed_lst
      · walk_at "eda"
      · show 3 ≤ 1000000
        decide
    · show 9 + 3 ≤ 1000000
      decide
    apply sj_frz 1 rfl
    apply sj_retP
    · exact ed_var rfl
    rintro _ rfl
    refine .inl ⟨_, rfl, fun i' d' hi' e => ?_⟩
    injection e with e1 e2
    injection e1 with e3 e4
    have := T.inj hi hi' e3
    subst this
    rfl
  · decide
theorem ok_law_made {f : Addr} {fd : FuncData} (F : Fun K "_law_made" "_law_made" s__law_made f fd) (T : Txt2 K mg cs fI) (I : Ini P w K mg base fI) (c__law_made_too : C8.Cal P w K mg base 3 "_law_made_too" (spMade K cs lToo) []) (c__law_made_more : C8.Cal P w K mg base 3 "_law_made_more" (spMade K cs lMore) []) : FnOk P w K mg base CX0 4 f fd ["value"] (spMade K cs lAll) := by
  refine F.ok sc__law_made (fun vs H Q E h => spJ_len h) (fun cdv A outer s H vs Q E hr h => ?_)
  refine ⟨_, (pss_cons (ps_set (i := 1) sc__law_made.nd rfl (by first | exact Or.inl rfl | exact Or.inr rfl) (pe_lst (pa_cons (pe_mk T I hr 0 ⟨T.g_BadBook, by decide⟩ (by rfl) (pa_cons (pv 0) pa_nil)) (pa_cons (pe_mk T I hr 1 ⟨T.g_BadNumber, by decide⟩ (by rfl) (pa_cons (pv 0) pa_nil)) (pa_cons (pe_mk T I hr 2 ⟨T.g_BadName, by decide⟩ (by rfl) (pa_cons (pv 0) pa_nil)) (pa_cons (pe_mk T I hr 3 ⟨T.g_BadStations, by decide⟩ (by rfl) (pa_cons (pv 0) pa_nil)) (pa_cons (pe_mk T I hr 4 ⟨T.g_BadLinks, by decide⟩ (by rfl) (pa_cons (pv 0) pa_nil)) pa_nil)))))))
 (pss_cons (ps_expr (pe_bm PySem.F.plainAttrs_list PySem.F.slot_list_extend PySem.F.type_list_extend mt_extend (pv 1) (pa_cons (pe_lst (pa_cons (pe_mk T I hr 5 ⟨T.g_NoStation, by decide⟩ (by rfl) (pa_cons (pv 0) pa_nil)) (pa_cons (pe_mk T I hr 6 ⟨T.g_NoLink, by decide⟩ (by rfl) (pa_cons (pv 0) pa_nil)) (pa_cons (pe_mk T I hr 7 ⟨T.g_BadLot, by decide⟩ (by rfl) (pa_cons (pv 0) pa_nil)) (pa_cons (pe_mk T I hr 8 ⟨T.g_BadTicks, by decide⟩ (by rfl) (pa_cons (pv 0) pa_nil)) (pa_cons (pe_mk T I hr 9 ⟨T.g_TooMany, by decide⟩ (by rfl) (pa_cons (pv 0) pa_nil)) (pa_cons (pe_mk T I hr 10 ⟨T.g_BadTick, by decide⟩ (by rfl) (pa_cons (pv 0) pa_nil)) pa_nil))))))) pa_nil)))
 (pss_cons (ps_expr (pe_bm PySem.F.plainAttrs_list PySem.F.slot_list_extend PySem.F.type_list_extend mt_extend (pv 1) (pa_cons (pe_lst (pa_cons (pe_mk T I hr 11 ⟨T.g_BadNames, by decide⟩ (by rfl) (pa_cons (pv 0) pa_nil)) (pa_cons (pe_mk T I hr 12 ⟨T.g_BadHeaps, by decide⟩ (by rfl) (pa_cons (pv 0) pa_nil)) (pa_cons (pe_mk T I hr 13 ⟨T.g_NoFlow, by decide⟩ (by rfl) (pa_cons (pv 0) pa_nil)) pa_nil)))) pa_nil)))
 (pss_one (ps_ret (pe_op op_cat (pe_op op_cat (pv 1) (C8.pe_c c__law_made_too hr (by omega) (by rfl) (pa_cons (pv 0) pa_nil))) (C8.pe_c c__law_made_more hr (by omega) (by rfl) (pa_cons (pv 0) pa_nil)))))))), body_of (n := 1) (fun ρ ds hl hp => ?_) h⟩
  obtain ⟨d, rfl⟩ := hp
  apply ex_k
  · apply sj_new
    · exact en_lstE (by walk_at "eda") (by show 5 ≤ 1000000; decide)
    rintro _ rfl
    apply sj_ext rfl
    · apply ed_lst
      · walk_at "eda"
      · show 6 ≤ 1000000
        decide
    · show 5 + 6 ≤ 1000000
      decide
    apply sj_ext rfl
    · apply ed_lst
      · walk_at "eda"
      · show 3 ≤ 1000000
        decide
    · show 11 + 3 ≤ 1000000
      decide
    apply sj_frz 1 rfl
    apply sj_retP
    · apply EN.ej
      apply en_catE (ds := mkE cs d (lOne ++ lToo)) (es := mkE cs d lMore)
      · apply EN.ej
        apply en_catE (ds := mkE cs d lOne) (es := mkE cs d lToo)
        · exact ed_var rfl
        · exact ej_call (PA := (· = [d])) (eda_cons (ed_var rfl) eda_nil) (fun _ e => ⟨by subst e; rfl, d, e⟩) (fun ds r e p => p d e)
        · show 14 + 14 ≤ 1000000
          decide
      · exact ej_call (PA := (· = [d])) (eda_cons (ed_var rfl) eda_nil) (fun _ e => ⟨by subst e; rfl, d, e⟩) (fun ds r e p => p d e)
      · show 28 + 12 ≤ 1000000
        decide
    rintro _ rfl
    exact .inl ⟨_, rfl, fun d' e => by cases e; rfl⟩
  · decide
theorem ok_law_kinds {f : Addr} {fd : FuncData} (F : Fun K "_law_kinds" "_law_kinds" s__law_kinds f fd) (T : Txt2 K mg cs fI) (c__law_kinds_too : C8.Cal P w K mg base 1 "_law_kinds_too" (spKinds K cs lToo) []) (c__law_kinds_more : C8.Cal P w K mg base 1 "_law_kinds_more" (spKinds K cs lMore) []) : FnOk P w K mg base CX0 2 f fd ["error"] (spKinds K cs lAll) := by
  refine F.ok sc__law_kinds (fun vs H Q E h => spJ_len h) (fun cdv A outer s H vs Q E hr h => ?_)
  refine ⟨_, (pss_cons (ps_set (i := 1) sc__law_kinds.nd rfl (by first | exact Or.inl rfl | exact Or.inr rfl) (pe_lst (pa_cons (pe_callB call_isX (by rfl) T.b_isinstance (by decide +kernel) (pa_cons (pv 0) (pa_cons (pe_glob (v := .ref (cs 0)) (by rfl) T.g_BadBook rfl) pa_nil))) (pa_cons (pe_callB call_isX (by rfl) T.b_isinstance (by decide +kernel) (pa_cons (pv 0) (pa_cons (pe_glob (v := .ref (cs 1)) (by rfl) T.g_BadNumber rfl) pa_nil))) (pa_cons (pe_callB call_isX (by rfl) T.b_isinstance (by decide +kernel) (pa_cons (pv 0) (pa_cons (pe_glob (v := .ref (cs 2)) (by rfl) T.g_BadName rfl) pa_nil))) pa_nil)))))
 (pss_cons (ps_expr (pe_bm PySem.F.plainAttrs_list PySem.F.slot_list_extend PySem.F.type_list_extend mt_extend (pv 1) (pa_cons (pe_lst (pa_cons (pe_callB call_isX (by rfl) T.b_isinstance (by decide +kernel) (pa_cons (pv 0) (pa_cons (pe_glob (v := .ref (cs 3)) (by rfl) T.g_BadStations rfl) pa_nil))) (pa_cons (pe_callB call_isX (by rfl) T.b_isinstance (by decide +kernel) (pa_cons (pv 0) (pa_cons (pe_glob (v := .ref (cs 4)) (by rfl) T.g_BadLinks rfl) pa_nil))) (pa_cons (pe_callB call_isX (by rfl) T.b_isinstance (by decide +kernel) (pa_cons (pv 0) (pa_cons (pe_glob (v := .ref (cs 5)) (by rfl) T.g_NoStation rfl) pa_nil))) pa_nil)))) pa_nil)))
 (pss_cons (ps_expr (pe_bm PySem.F.plainAttrs_list PySem.F.slot_list_extend PySem.F.type_list_extend mt_extend (pv 1) (pa_cons (pe_lst (pa_cons (pe_callB call_isX (by rfl) T.b_isinstance (by decide +kernel) (pa_cons (pv 0) (pa_cons (pe_glob (v := .ref (cs 6)) (by rfl) T.g_NoLink rfl) pa_nil))) (pa_cons (pe_callB call_isX (by rfl) T.b_isinstance (by decide +kernel) (pa_cons (pv 0) (pa_cons (pe_glob (v := .ref (cs 7)) (by rfl) T.g_BadLot rfl) pa_nil))) (pa_cons (pe_callB call_isX (by rfl) T.b_isinstance (by decide +kernel) (pa_cons (pv 0) (pa_cons (pe_glob (v := .ref (cs 8)) (by rfl) T.g_BadTicks rfl) pa_nil))) pa_nil)))) pa_nil)))
 (pss_cons (ps_expr (pe_bm PySem.F.plainAttrs_list PySem.F.slot_list_extend PySem.F.type_list_extend mt_extend (pv 1) (pa_cons (pe_lst (pa_cons (pe_callB call_isX (by rfl) T.b_isinstance (by decide +kernel) (pa_cons (pv 0) (pa_cons (pe_glob (v := .ref (cs 9)) (by rfl) T.g_TooMany rfl) pa_nil))) (pa_cons (pe_callB call_isX (by rfl) T.b_isinstance (by decide +kernel) (pa_cons (pv 0) (pa_cons (pe_glob (v := .ref (cs 10)) (by rfl) T.g_BadTick rfl) pa_nil))) (pa_cons (pe_callB call_isX (by rfl) T.b_isinstance (by decide +kernel) (pa_cons (pv 0) (pa_cons (pe_glob (v := .ref (cs 11)) (by rfl) T.g_BadNames rfl) pa_nil))) pa_nil)))) pa_nil)))
 (pss_cons (ps_expr (pe_bm PySem.F.plainAttrs_list PySem.F.slot_list_extend PySem.F.type_list_extend mt_extend (pv 1) (pa_cons (pe_lst (pa_cons (pe_callB call_isX (by rfl) T.b_isinstance (by decide +kernel) (pa_cons (pv 0) (pa_cons (pe_glob (v := .ref (cs 12)) (by rfl) T.g_BadHeaps rfl) pa_nil))) (pa_cons (pe_callB call_isX (by rfl) T.b_isinstance (by decide +kernel) (pa_cons (pv 0) (pa_cons (pe_glob (v := .ref (cs 13)) (by rfl) T.g_NoFlow rfl) pa_nil))) pa_nil))) pa_nil)))
 (pss_one (ps_ret (pe_op op_cat (pe_op op_cat (pv 1) (C8.pe_c c__law_kinds_too hr (by omega) (by rfl) (pa_cons (pv 0) pa_nil))) (C8.pe_c c__law_kinds_more hr (by omega) (by rfl) (pa_cons (pv 0) pa_nil)))))))))), body_of (n := 1) (fun ρ ds hl hp => ?_) h⟩
  obtain ⟨i, d, hi, rfl⟩ := hp
  apply ex_k
  · apply sj_new
    · exact en_lstE (by walk_at "eda") (by show 3 ≤ 1000000; decide)
    rintro _ rfl
    apply sj_ext rfl
    · apply ed_lst
      · walk_at "eda"
      · show 3 ≤ 1000000
        decide
    · show 3 + 3 ≤ 1000000
      decide
    apply sj_ext rfl
    · apply ed_lst
      · walk_at "eda"
      · show 3 ≤ 1000000
        decide
    · show 6 + 3 ≤ 1000000
      decide
    apply sj_ext rfl
    · apply ed_lst
      · walk_at "eda"
      · show 3 ≤ 1000000
        decide
    · show 9 + 3 ≤ 1000000
      decide
    apply sj_ext rfl
    · apply ed_lst
      · walk_at "eda"
      · show 2 ≤ 1000000
        decide
    · show 12 + 2 ≤ 1000000
      decide
    apply sj_frz 1 rfl
    apply sj_retP
    · apply EN.ej
      apply en_catE (ds := (bK i (lOne ++ lToo)).map D.bl) (es := (bK i lMore).map D.bl)
      · apply EN.ej
        apply en_catE (ds := (bK i lOne).map D.bl) (es := (bK i lToo).map D.bl)
        · exact ed_var rfl
        · exact ej_call (PA := (· = [.exc (cs i) d])) (eda_cons (ed_var rfl) eda_nil) (fun _ e => ⟨by subst e; rfl, i, d, hi, e⟩) (fun ds r e p => p i d hi e)
        · show 14 + 14 ≤ 1000000
          decide
      · exact ej_call (PA := (· = [.exc (cs i) d])) (eda_cons (ed_var rfl) eda_nil) (fun _ e => ⟨by subst e; rfl, i, d, hi, e⟩) (fun ds r e p => p i d hi e)
      · show 28 + 12 ≤ 1000000
        decide
    rintro _ rfl
    refine .inl ⟨_, rfl, fun i' d' hi' e => ?_⟩
    injection e with e1 e2
    injection e1 with e3 e4
    have := T.inj hi hi' e3
    subst this
    rfl
  · decide
end
end DN

namespace DN
open PySem PySem.Spec PyProof.Rows L2
/-! facts of the values -/
def sameB (d : D) : Bool := (seqD d && SeqAt.shaped (py d) && (py d).canLay0) || flatDct d
theorem sameB_ok {d : D} (h : sameB d = true) : SameOk d := by
  unfold sameB at h
  rw [Bool.or_eq_true, Bool.and_eq_true, Bool.and_eq_true] at h
  rcases h with ⟨⟨h1, h2⟩, h3⟩ | h
  · exact ⟨.inl ⟨h1, h2, h3⟩⟩
  · exact ⟨.inr h⟩
def showB (d : D) : Bool := plainD d && (py d).showable && (!(py d).hasDict || listFree d) && decide ((py d).depth ≤ 60) && decide ((showD d).length ≤ 1000)
theorem showB_ok {d : D} (h : showB d = true) : ShowOk d := by
  unfold showB at h
  simp only [Bool.and_eq_true, decide_eq_true_eq, Bool.or_eq_true, Bool.not_eq_true'] at h
  obtain ⟨⟨⟨⟨h1, h2⟩, h3⟩, h4⟩, h5⟩ := h
  refine ⟨h1, h2, fun z => ?_, h4, Nat.le_trans h5 (by decide)⟩
  rcases h3 with y | y
  · rw [z] at y; cases y
  · exact y
theorem odds_same : odds.all sameB = true := by decide +kernel
theorem odds_show : odds.all showB = true := by decide +kernel
theorem odd_ok {d : D} (h : d ∈ odds) : SameOk d ∧ ShowOk d := ⟨sameB_ok (List.all_eq_true.mp odds_same d h), showB_ok (List.all_eq_true.mp odds_show d h)⟩
theorem all_get : ∀ i, i < 40 → lAll[i]? = some i := by decide +kernel
theorem all_len : lAll.length = 40 := by decide +kernel
theorem bK_hit : ∀ i, i < 40 → (bK i lAll)[i]? = some true := by decide +kernel
theorem bK_no : ∀ i, i < 41 → ∀ m, m < 40 → m ≠ i → (bK i lAll)[m]? = some false := by decide +kernel
theorem bK_cnt : ∀ i, i < 40 → (bK i lAll).count true = 1 := by decide +kernel
theorem bK_none : (((bK 40 lAll).map D.bl).any fun y => eqF y (.bl true)) = false := by decide +kernel
theorem bls_atom (bs : List Bool) : (bs.map D.bl).all atomD = true := by
  rw [List.all_eq_true]
  intro x hx
  obtain ⟨b, _, rfl⟩ := List.mem_map.mp hx
  rfl
theorem enumD_get {ds : List D} {i : Nat} {x : D} (h : (enumD ds)[i]? = some x) : ∃ y, ds[i]? = some y ∧ x = .tup [.int (i : Int), y] := by
  unfold enumD at h
  rw [List.getElem?_zipWith] at h
  cases hr : (List.range ds.length)[i]? with
  | none => rw [hr] at h; cases h
  | some j =>
    cases hd : ds[i]? with
    | none => rw [hr, hd] at h; cases h
    | some y =>
      rw [hr, hd] at h
      have e := List.getElem?_eq_some_iff.mp hr
      obtain ⟨_, e⟩ := e
      rw [List.getElem_range] at e
      subst e
      exact ⟨y, rfl, (Option.some.inj h).symm⟩
theorem enumD_len (ds : List D) : (enumD ds).length = ds.length := by simp [enumD]
theorem made_get {cs : Nat → Addr} {d : D} {i : Nat} {y : D} (h : (mkE cs d lAll)[i]? = some y) : i < 40 ∧ y = .exc (cs i) d := by
  unfold mkE at h
  rw [List.getElem?_map] at h
  have hi : i < 40 := by
    rw [← all_len]
    cases z : lAll[i]? with
    | none => rw [z] at h; cases h
    | some j => exact (List.getElem?_eq_some_iff.mp z).1
  rw [all_get i hi] at h
  exact ⟨hi, (Option.some.inj h).symm⟩
section
variable {P : Program} {w : World} {K : PySem.W.Frag} {mg : Str → Option Value} {base : Heap} {cs : Nat → Addr} {fI : Addr}
variable {ρ : Option Addr} {δ : Dl} {te ta tb : TE} {tA : TA} {tt tu : TT} {d : D} {i j : Nat}
abbrev EF (ρ : Option Addr) (K : PySem.W.Frag) (tt : TT) (δ : Dl) : Prop := ET ρ K tt δ 0 (· = false)
theorem ef_test (h : ED ρ K te δ (.bl false)) : EF ρ K (tTest te) δ := eb_test h
theorem ef_B (h : ED ρ K te δ (.bl false)) : EF ρ K (tB te) δ := eb_B h
theorem ef_or (h1 : EF ρ K tt δ) (h2 : EF ρ K tu δ) : EF ρ K (tOr tt tu) δ := eb_or (x := false) (y := false) h1 fun _ => h2
theorem ef_not (h : EB ρ K tt δ true) : EF ρ K (tNot tt) δ := eb_not (x := true) h
theorem ed_neSelfI {n : Int} (h1 : ED ρ K ta δ (.int n)) (h2 : ED ρ K tb δ (.int n)) : ED ρ K (tOp rNe ta tb) δ (.bl false) := by
  have := ed_op h1 h2 rj_neI
  rw [decide_eq_true (rfl : n = n)] at this
  exact this
theorem ed_neSelfS {n : Str} (h1 : ED ρ K ta δ (.str n)) (h2 : ED ρ K tb δ (.str n)) : ED ρ K (tOp rNe ta tb) δ (.bl false) := by
  have := ed_op h1 h2 rj_neS
  rw [decide_eq_true (rfl : n = n)] at this
  exact this
theorem ed_repr (h : ED ρ K te δ d) (ok : ShowOk d) : ED ρ K (tCB (rRepr K) (tCons te tNil)) δ (.str (showD d)) := ed_cb (eda_cons h eda_nil) (cj_repr ok)
theorem ed_kinds (h : ED ρ K te δ (.exc (cs i) d)) (hi : i < 41) {E : XK} : ED ρ K (tCall (spKinds K cs lAll) [] E (tCons te tNil)) δ (.lst ((bK i lAll).map D.bl)) :=
  ej_call (PA := (· = [.exc (cs i) d])) (eda_cons h eda_nil) (fun _ e => ⟨by subst e; rfl, i, d, hi, e⟩) (fun ds r e p => p i d hi e)
abbrev spRight (K : PySem.W.Frag) : Sp := spJ K 1 prePot 3 (fun _ d => d = .bl true)
theorem ok_right {f : Addr} {fd : FuncData} (F : Fun K "_law_right" "_law_right" s__law_right f fd) (T : Txt2 K mg cs fI) (I : Ini P w K mg base fI) (c__law_odd : C8.Cal P w K mg base 3 "_law_odd" (spOdd K) []) (c__law_made : C8.Cal P w K mg base 4 "_law_made" (spMade K cs lAll) []) (c__law_kinds : C8.Cal P w K mg base 2 "_law_kinds" (spKinds K cs lAll) []) :
    FnG P w K mg base CX0 5 f fd ["pot"] (spRight K) := by
  refine FnG.mk_ F sc__law_right (fun vs H Q E h => spJ_len h) (fun cdv A outer s H vs Q E hs hr h => ?_)
  refine ⟨_, (pss_cons (ps_for PassesOwn.never rfl (pi_range1 (by rfl) T.b_range (pa_cons pe_int pa_nil)) (pg_name (i := 1) sc__law_right.nd rfl (by first | exact Or.inl rfl | exact Or.inr rfl))
  (pss_cons (ps_set (i := 2) sc__law_right.nd rfl (by first | exact Or.inl rfl | exact Or.inr rfl) (C8.pe_c c__law_odd hr (by omega) (by rfl) (pa_cons (pv 0) pa_nil)))
 (pss_cons (ps_par (i := 3) (j := 4) (by rfl) sc__law_right.nd rfl rfl (by decide) rfl rfl (pa_cons (C8.pe_c c__law_made hr (by omega) (by rfl) (pa_cons (pv 2) pa_nil)) (pa_cons (pe_mk T I hr 40 ⟨T.g_NetError, by decide⟩ (by rfl) (pa_cons (pv 2) pa_nil)) pa_nil)) (by rfl))
 (pss_cons (ps_for PassesOwn.never rfl (pi_enum (by rfl) T.b_enumerate (pa_cons (pv 3) pa_nil)) (pg_tup rfl (pgs_cons (pg_name (i := 5) sc__law_right.nd rfl (by first | exact Or.inl rfl | exact Or.inr rfl)) (pgs_cons (pg_name (i := 6) sc__law_right.nd rfl (by first | exact Or.inl rfl | exact Or.inr rfl)) pgs_nil)))
  (pss_cons (ps_if (PW.pt (pw_or (pt_cmpR (op_neS hr.units) (pe_err (pv 6)) (pv 2) (by first | exact nomark _ | rfl)) (pw_or (pt_cmpR op_ne (pe_callB (call_repr hs hr.units) (by rfl) T.b_repr (by decide +kernel) (pa_cons (pe_err (pv 6)) pa_nil)) (pe_callB (call_repr hs hr.units) (by rfl) T.b_repr (by decide +kernel) (pa_cons (pv 2) pa_nil)) (by first | exact nomark _ | rfl)) (pw_or1 (pt_cmpR op_ne (pe_bm PySem.F.plainAttrs_list PySem.F.slot_list_index PySem.F.type_list_index mt_index (C8.pe_c c__law_kinds hr (by omega) (by rfl) (pa_cons (pv 6) pa_nil)) (pa_cons pe_bl pa_nil)) (pv 5) (by first | exact nomark _ | rfl)))))) (pss_one (ps_ret pe_bl)) pss_nil)
 (pss_cons (ps_if (PW.pt (pw_or (pt_cmpR op_ne (pe_bm PySem.F.plainAttrs_list PySem.F.slot_list_count PySem.F.type_list_count mt_lcountF (C8.pe_c c__law_kinds hr (by omega) (by rfl) (pa_cons (pv 6) pa_nil)) (pa_cons pe_bl pa_nil)) pe_int (by first | exact nomark _ | rfl)) (pw_or1 (pt_not (pt_val (pe_callB call_isX (by rfl) T.b_isinstance (by decide +kernel) (pa_cons (pv 6) (pa_cons (pe_glob (v := .ref (cs 40)) (by rfl) T.g_NetError rfl) pa_nil)))))))) (pss_one (ps_ret pe_bl)) pss_nil)
 (pss_one (ps_if (pt_not (pt_val (pe_callB call_isX (by rfl) T.b_isinstance (by decide +kernel) (pa_cons (pv 6) (pa_cons (pe_bltn (v := .ty "ValueError") (by rfl) T.b_ValueError (by decide +kernel) rfl) pa_nil))))) (pss_one (ps_ret pe_bl)) pss_nil)))))
 (pss_one (ps_if (PW.pt (pw_or (pt_cmpR op_ne (pe_callB (call_repr hs hr.units) (by rfl) T.b_repr (by decide +kernel) (pa_cons (pe_err (pv 4)) pa_nil)) (pe_callB (call_repr hs hr.units) (by rfl) T.b_repr (by decide +kernel) (pa_cons (pv 2) pa_nil)) (by first | exact nomark _ | rfl)) (pw_or (pt_cmpR op_in_seq pe_bl (C8.pe_c c__law_kinds hr (by omega) (by rfl) (pa_cons (pv 4) pa_nil)) (by first | exact nomark _ | rfl)) (pw_or1 (pt_not (pt_val (pe_callB call_isX (by rfl) T.b_isinstance (by decide +kernel) (pa_cons (pv 4) (pa_cons (pe_bltn (v := .ty "ValueError") (by rfl) T.b_ValueError (by decide +kernel) rfl) pa_nil))))))))) (pss_one (ps_ret pe_bl)) pss_nil))))))
 (pss_one (ps_ret pe_bl))), body_of (n := 1) (fun ρ ds hl hp => ?_) h⟩
  obtain ⟨a, rfl, rfl⟩ := hp
  apply ex_k
  · apply sj_for (Inv := fun _ _ δ' => δ' = [some (.val (.opq (.ref a))), none, none, none, none, none, none]) (Br := fun _ => False) (N := 3)
    · exact ij_range1 ed_int ⟨by decide, by decide⟩
    · rintro _ rfl
      decide
    · rintro _ rfl
      rfl
    · rintro _ i d _ rfl hd rfl
      refine ⟨_, gj_name, ?_⟩
      apply sj_set
      · exact ej_call (PA := (· = [.opq (.ref a)])) (eda_cons (ed_var rfl) eda_nil) (fun _ e => ⟨by subst e; rfl, a, rfl, e⟩) (fun ds r e p => p)
      intro v hv
      obtain ⟨so, sh⟩ := odd_ok hv
      apply sj_par (PA := (· = [.lst (mkE cs v lAll), .exc (cs 40) v]))
      · apply eda_cons
        · exact ej_call (PA := (· = [v])) (eda_cons (ed_var rfl) eda_nil) (fun _ e => ⟨by subst e; rfl, v, e⟩) (fun ds r e p => p v e)
        · exact eda_cons (ed_exT (by assumption) (by decide) (eda_cons (ed_var rfl) eda_nil)) eda_nil
      rintro _ rfl
      refine ⟨_, _, rfl, ?_⟩
      apply sj_fewer (δ' := [some (.val (.opq (.ref a))), none, some (.val v), some (.val (.lst (mkE cs v lAll))), some (.val (.exc (cs 40) v)), none, none]) (.keep (.drop (.keep (.keep (.keep (.keep (.keep .nil)))))))
      apply sj_for (Inv := fun _ _ δ' => δ' = [some (.val (.opq (.ref a))), none, some (.val v), some (.val (.lst (mkE cs v lAll))), some (.val (.exc (cs 40) v)), none, none]) (Br := fun _ => False) (N := 40)
      · exact ij_enum (eda_cons (ed_var rfl) eda_nil)
      · rintro _ rfl
        rw [enumD_len]
        show List.length (List.map _ _) ≤ 40
        rw [List.length_map, all_len]
        exact Nat.le_refl _
      · rintro _ rfl
        rfl
      · rintro _ i x _ rfl hx rfl
        obtain ⟨y, hy, rfl⟩ := enumD_get hx
        obtain ⟨hi, rfl⟩ := made_get hy
        have hi41 : i < 41 := by omega
        refine ⟨_, gj_tup (gsj_cons gj_name (gsj_cons gj_name gsj_nil)) rfl, ?_⟩
        apply sj_ifs (PT := (· = false)) (k2 := 0)
        · apply ef_or
          · apply ef_test
            exact ed_op (ed_errT T hi41 (ed_var rfl)) (ed_var rfl) (rj_neSelf so)
          apply ef_or
          · apply ef_test
            exact ed_neSelfS (ed_repr (ed_errT T hi41 (ed_var rfl)) sh) (ed_repr (ed_var rfl) sh)
          · apply ef_test
            exact ed_neSelfI (ed_idxB (ed_kinds (ed_var rfl) hi41) (bK_hit i hi) (fun m hm => bK_no i hi41 m (by omega) (by omega))) (ed_var rfl)
        · intro z
          cases z
        intro _
        apply sj_nexts
        apply sj_ifs (PT := (· = false)) (k2 := 0)
        · apply ef_or
          · apply ef_test
            refine ed_neSelfI (n := ((1 : Nat) : Int)) ?_ ed_int
            rw [← bK_cnt i hi]
            exact ed_cntB (ed_kinds (ed_var rfl) hi41)
          · apply ef_not
            first | apply eb_B | apply eb_test
            have := ed_isT (ρ := some a) (δ := (([some (.val (.opq (.ref a))), none, some (.val v), some (.val (.lst (mkE cs v lAll))), some (.val (.exc (cs 40) v)), none, none] : Dl).set 5 (some (.val (.int (i : Nat))))).set 6 (some (.val (.exc (cs i) v)))) (te := tVar 6) (d := v) (j := 40) T hi41 (by decide) (ed_var rfl)
            rw [show isK i 40 = true by simp [isK]] at this
            exact this
        · intro z
          cases z
        intro _
        apply sj_nexts
        apply sj_last
        apply sj_ifs (PT := (· = false)) (k2 := 0)
        · apply ef_not
          first | apply eb_B | apply eb_test
          exact ed_isV T hi41 (ed_var rfl)
        · intro z
          cases z
        intro _
        apply sj_nexts
        exact sj_nextW (.keep (.keep (.keep (.keep (.keep (.drop (.drop .nil))))))) rfl
      · rintro _ _ rfl (rfl | z)
        rotate_left
        · exact z.elim
        apply sj_last
        apply sj_ifs (PT := (· = false)) (k2 := 0)
        · apply ef_or
          · apply ef_test
            exact ed_neSelfS (ed_repr (ed_errT T (by decide) (ed_var rfl)) sh) (ed_repr (ed_var rfl) sh)
          apply ef_or
          · apply ef_test
            have := ed_op (ρ := some a) (K := K) (r := rIn K false) (δ := [some (.val (.opq (.ref a))), none, some (.val v), some (.val (.lst (mkE cs v lAll))), some (.val (.exc (cs 40) v)), none, none]) (ed_bl (i := true)) (ed_kinds (E := C8.E0) (ed_var (i := 4) rfl) (by decide)) (rj_in (neg := false) (a := .bl true) rfl (bls_atom _))
            rw [bK_none] at this
            exact this
          · apply ef_not
            first | apply eb_B | apply eb_test
            exact ed_isV T (by decide) (ed_var rfl)
        · intro z
          cases z
        intro _
        apply sj_nexts
        exact sj_nextW (.keep (.keep (.drop (.drop (.drop (.keep (.keep .nil))))))) rfl
    · rintro _ _ rfl (rfl | z)
      rotate_left
      · exact z.elim
      apply sj_last
      apply sj_rets
      apply sj_retP
      · exact ed_bl
      rintro _ rfl
      exact .inl ⟨_, rfl, rfl⟩
  · decide
end
end DN

namespace DN
open PySem PySem.Spec PyProof.Rows L2
section
variable {P : Program} {w : World} {K : PySem.W.Frag} {mg : Str → Option Value} {base : Heap} {cs : Nat → Addr} {fI : Addr}
def spLaw (K : PySem.W.Frag) : Sp := fun vs H Q _ => ∃ (a : Addr) (ns : List Int), vs = [.ref a] ∧ SqL K H a (ns.map V.int) ∧ ns.length ≤ 63 ∧ ∀ H', Q (.bl true) H'
theorem ok_law {f : Addr} {fd : FuncData} (F : Fun K "law" "law" s_law f fd) (T : Txt2 K mg cs fI) (c__law_pot : C8.Cal P w K mg base 1 "_law_pot" (spPot K) []) (c__law_cells : C8.Cal P w K mg base 1 "_law_cells" (spCells K) []) (c__law_right : CalG P w K mg base CX0 5 "_law_right" (spRight K)) :
    FnG P w K mg base CX0 6 f fd ["script"] (spLaw K) := by
  refine FnG.mk_ F sc_law (fun vs H Q E h => ?_) (fun cdv A outer s H vs Q E hs hr h => ?_)
  · obtain ⟨a, ns, rfl, _⟩ := h
    rfl
  obtain ⟨a, ns, rfl, hS, hl, q⟩ := h
  refine ⟨_, (pss_one (ps_ret (pe_callB (cr_all (by rfl)) (by rfl) T.b_all (by decide +kernel) (pa_cons (pe_lc (own := [("place", 1)]) rfl sc_law.nd (pi_list (C8.pe_c c__law_cells hr (by omega) (by rfl) (pa_cons (pv 0) (pa_cons pe_int pa_nil)))) (blkOk_by (N := ["script", "place"]) (sc := defScope s_law) (by decide +kernel)) (fun _ _ _ _ _ => (pg_name (i := 1) sc_law.nd rfl (by first | exact Or.inl rfl | exact Or.inr rfl))) (fun _ _ _ _ _ => pts_nil) (fun _ _ _ _ _ => (pe_g (E := C8.E0) c__law_right hs hr (by omega) pass0 (by rfl) (pa_cons (C8.pe_c c__law_pot hr (by omega) (by rfl) (pa_cons (pv 0) (pa_cons (pv 1) pa_nil))) pa_nil)))) pa_nil)))), ?_⟩
  have J := sj_law (K := K) (δ := [some (.val (.scr ns)), none]) (pre := prePot) (post := fun _ d => d = .bl true) (c := 3) (most := 3) (ns := ns) (L := [1]) (vs := [1]) (g := gName 1) (δt := fun d => [some (.val (.scr ns)), some (.val d)]) (E := E) (E1 := C8.E0) (E2 := C8.E0) (E3 := C8.E0) (ta := tVar 0) (tb := tC (.int 3)) (tc := tVar 0) (td := tVar 1)
    hl (by decide) (by decide) (by decide) (ed_var rfl) ed_int (fun i h => h) (fun d => gj_name) (fun d => ed_var rfl) (fun d => ed_var rfl) (fun p => ⟨p, rfl, rfl⟩) (fun p d h => h)
  refine J.run H H H H _ 0 _ (wf_script hS rfl rfl fun i s e => ?_) (by decide) (fun o e => ?_)
  · match i, e with
    | 0, e => cases e; exact ⟨rfl, rfl⟩
    | 1, e => cases e
    | n + 2, e => simp at e
  · subst e
    intro v G' H' m' g p l hv
    cases hv
    exact q H'
end

/-! ### what the top has left -/
structure DefAt (K : PySem.W.Frag) (mg : Str → Option Value) (x : Str) (st : Stmt) : Prop where
  ex : ∃ (f : Addr) (fd : FuncData), mg x = some (.ref f) ∧ Fun K x x st f fd ∧ PySem.W.keepIn K (.ref f) = true
theorem def_of {K : PySem.W.Frag} {h : Heap} {mg : Str → Option Value} {x : Str} {st : Stmt} {f : Addr} {oc : Value} {od an : Option Addr} {osl : Array (Option Value)} {kV doc pm cdv ct : Value} (X : K.In h) (G : h.Ns mainGlobals mg)
    (a : PySem.W.nsIn K mainGlobals x = some (some (.ref f))) (l : K.lookup f = some ⟨oc, od, .func (PySem.W.fnOf x x (defArgs st) (defBody st) (defScope st) .none kV doc pm an cdv ct), osl⟩)
    (c : PySem.W.codeIn K cdv x = true) (k : PySem.W.keepIn K (.ref f) = true) : DefAt K mg x st := ⟨⟨f, _, PySem.W.mg_of X G a, fun_mk l c k, k⟩⟩
structure ClsAt (K : PySem.W.Frag) (mg : Str → Option Value) (bm : List Value) (fI : Addr) (nm : Str) (C : Addr) : Prop where
  g : mg nm = some (.ref C)
  look : ∃ q N bs sn sub ab col dd k0 k1 k2 k3 k5, K.lookup C = some (excClassObj nm q C N bs bm true sn sub ab col dd k0 k1 k2 k3 k5 "ValueError.__new__")
  sa : PySem.W.findIn K (.ref C) "__setattr__" = some (some (.builtin "object.__setattr__"))
  ga : PySem.W.findIn K (.ref C) "__getattribute__" = some (some (.builtin "BaseException.__getattribute__"))
  gg : PySem.W.findIn K (.ref C) "__getattr__" = some none
  cl : PySem.W.findIn K (.ref C) "__class__" = some (some (.builtin "object.__class__"))
  ini : PySem.W.findIn K (.ref C) "__init__" = some (some (.ref fI))
  va : PySem.W.findIn K (.ref C) "value" = some none
  kp : PySem.W.keepIn K (.ref C) = true
theorem cls_of {K : PySem.W.Frag} {h : Heap} {mg : Str → Option Value} {bm : List Value} {fI C : Addr} {nm q : Str} {N : Addr} {bs : List Value} {sn : List Str} {sub : List Value} {ab : Bool} {col : Option Bool} {dd : Option Addr} {k0 k1 k2 k3 k5 : Option Value} (X : K.In h) (G : h.Ns mainGlobals mg)
    (a : PySem.W.nsIn K mainGlobals nm = some (some (.ref C))) (l : K.lookup C = some (excClassObj nm q C N bs bm true sn sub ab col dd k0 k1 k2 k3 k5 "ValueError.__new__"))
    (sa : PySem.W.findIn K (.ref C) "__setattr__" = some (some (.builtin "object.__setattr__"))) (ga : PySem.W.findIn K (.ref C) "__getattribute__" = some (some (.builtin "BaseException.__getattribute__"))) (gg : PySem.W.findIn K (.ref C) "__getattr__" = some none)
    (cl : PySem.W.findIn K (.ref C) "__class__" = some (some (.builtin "object.__class__"))) (ini : PySem.W.findIn K (.ref C) "__init__" = some (some (.ref fI))) (va : PySem.W.findIn K (.ref C) "value" = some none) (kp : PySem.W.keepIn K (.ref C) = true) : ClsAt K mg bm fI nm C :=
  ⟨PySem.W.mg_of X G a, ⟨q, N, bs, sn, sub, ab, col, dd, k0, k1, k2, k3, k5, l⟩, sa, ga, gg, cl, ini, va, kp⟩
inductive CA (K : PySem.W.Frag) (mg : Str → Option Value) (bm : List Value) (fI : Addr) : List Str → List Addr → Prop
  | nil : CA K mg bm fI [] []
  | cons {nm : Str} {C : Addr} {ns : List Str} {Cs : List Addr} : ClsAt K mg bm fI nm C → CA K mg bm fI ns Cs → CA K mg bm fI (nm :: ns) (C :: Cs)
section
variable {P : Program} {w : World} {K : PySem.W.Frag} {mg : Str → Option Value} {bm : List Value} {fI : Addr} {h : Heap}
theorem CA.len : ∀ {ns : List Str} {Cs : List Addr}, CA K mg bm fI ns Cs → ns.length = Cs.length
  | _, _, .nil => rfl
  | _, _, .cons _ t => congrArg (· + 1) t.len
theorem CA.get : ∀ {ns : List Str} {Cs : List Addr} {i : Nat} {nm : Str}, CA K mg bm fI ns Cs → ns[i]? = some nm → ∃ C, Cs[i]? = some C ∧ ClsAt K mg bm fI nm C
  | _, _, _, _, .nil, e => by simp at e
  | _, _, 0, _, .cons c _, e => by
    have e' := Option.some.inj e
    subst e'
    exact ⟨_, rfl, c⟩
  | _, _, i + 1, nm, .cons _ t, e => by
    obtain ⟨C, h1, h2⟩ := CA.get (i := i) (nm := nm) t (by simpa using e)
    exact ⟨C, by simpa using h1, h2⟩
def csOf (Cs : List Addr) (net : Addr) (i : Nat) : Addr := if i = 40 then net else Cs.getD i 0
def ecM : List Str := ecN.take 40
theorem ecN_app : ecN = ecM ++ [("NetError" : Str)] := by decide +kernel
theorem cs_get {Cs : List Addr} {net : Addr} (ca : CA K mg (.ref net :: bmT) fI ecM Cs) (cn : ClsAt K mg bmT fI "NetError" net) : ∀ i nm, ecN[i]? = some nm → ClsAt K mg (bmOf (csOf Cs net) i) fI nm (csOf Cs net i) := by
  intro i nm e
  have hl : ecM.length = 40 := by decide +kernel
  rw [ecN_app] at e
  have h40 : csOf Cs net 40 = net := rfl
  by_cases hi : i < 40
  · rw [List.getElem?_append_left (by omega)] at e
    obtain ⟨C, h1, h2⟩ := ca.get e
    have e2 : csOf Cs net i = C := by
      unfold csOf
      rw [if_neg (by omega), List.getD_eq_getElem?_getD, h1]
      rfl
    rw [e2]
    unfold bmOf
    rw [if_neg (by omega), h40]
    exact h2
  · have hi2 : i < (ecM ++ [("NetError" : Str)]).length := (List.getElem?_eq_some_iff.mp e).1
    rw [List.length_append, hl] at hi2
    have e3 : i = 40 := by
      have : [("NetError" : Str)].length = 1 := rfl
      omega
    subst e3
    rw [List.getElem?_append_right (by omega), hl] at e
    have e4 : ("NetError" : Str) = nm := Option.some.inj e
    subst e4
    rw [h40]
    exact cn
theorem txt2_mk {Cs : List Addr} {net : Addr} (X : K.In h) (G : h.Ns mainGlobals mg) (cn : ClsAt K mg bmT fI "NetError" net) (ca : CA K mg (.ref net :: bmT) fI ecM Cs)
    (hn : PySem.W.specialIn K (.builtin "object.__class__") "__get__" = some (some (.builtin "getset_descriptor.__get__"))) (ht : PySem.W.takesIn K (.builtin "object.__class__") = some true) (tI : PySem.W.typeIn K (.ref fI) = some (.type "function"))
    (z1 : PySem.W.nsIn K mainGlobals "isinstance" = some none) (z2 : PySem.W.nsIn K mainGlobals "repr" = some none) (z3 : PySem.W.nsIn K mainGlobals "enumerate" = some none) (z4 : PySem.W.nsIn K mainGlobals "range" = some none) (z5 : PySem.W.nsIn K mainGlobals "all" = some none) (z6 : PySem.W.nsIn K mainGlobals "ValueError" = some none) : Txt2 K mg (csOf Cs net) fI := by
  have hc := cs_get ca cn
  have hx : ∀ i, i < 41 → ∃ nm, ClsAt K mg (bmOf (csOf Cs net) i) fI nm (csOf Cs net i) := fun i hi => ⟨_, hc i _ (List.getElem?_eq_getElem (by rw [ecN_len]; exact hi))⟩
  have hg : ∀ i nm, ecN[i]? = some nm → mg nm = some (.ref (csOf Cs net i)) := fun i nm e => (hc i nm e).g
  exact { look := fun i nm e => (hc i nm e).look, sa := fun i hi => ((hx i hi).elim fun _ c => c.sa), ga := fun i hi => ((hx i hi).elim fun _ c => c.ga), gg := fun i hi => ((hx i hi).elim fun _ c => c.gg), cl := fun i hi => ((hx i hi).elim fun _ c => c.cl), ini := fun i hi => ((hx i hi).elim fun _ c => c.ini), va := fun i hi => ((hx i hi).elim fun _ c => c.va), kp := fun i hi => ((hx i hi).elim fun _ c => c.kp), hn := hn, ht := ht, tI := tI, g_BadBook := hg 0 _ rfl, g_BadNumber := hg 1 _ rfl, g_BadName := hg 2 _ rfl, g_BadStations := hg 3 _ rfl, g_BadLinks := hg 4 _ rfl, g_NoStation := hg 5 _ rfl, g_NoLink := hg 6 _ rfl, g_BadLot := hg 7 _ rfl, g_BadTicks := hg 8 _ rfl, g_TooMany := hg 9 _ rfl, g_BadTick := hg 10 _ rfl, g_BadNames := hg 11 _ rfl, g_BadHeaps := hg 12 _ rfl, g_NoFlow := hg 13 _ rfl, g_BadMoves := hg 14 _ rfl, g_BadCut := hg 15 _ rfl, g_BadLevels := hg 16 _ rfl, g_NoWay := hg 17 _ rfl, g_NotHoming := hg 18 _ rfl, g_BadPackets := hg 19 _ rfl, g_BadEvent := hg 20 _ rfl, g_BadEvents := hg 21 _ rfl, g_BadWord := hg 22 _ rfl, g_Unfit := hg 23 _ rfl, g_NoDoor := hg 24 _ rfl, g_TooFew := hg 25 _ rfl, g_Held := hg 26 _ rfl, g_BadLink := hg 27 _ rfl, g_BadStation := hg 28 _ rfl, g_NotPart := hg 29 _ rfl, g_BadRule := hg 30 _ rfl, g_BadDeed := hg 31 _ rfl, g_NoNet := hg 32 _ rfl, g_Amid := hg 33 _ rfl, g_NotEmpty := hg 34 _ rfl, g_LastOne := hg 35 _ rfl, g_NothingToUndo := hg 36 _ rfl, g_NothingToRedo := hg 37 _ rfl, g_NoNote := hg 38 _ rfl, g_BadDesk := hg 39 _ rfl, g_NetError := hg 40 _ rfl, b_isinstance := PySem.W.mg_none_of X G z1, b_repr := PySem.W.mg_none_of X G z2, b_enumerate := PySem.W.mg_none_of X G z3, b_range := PySem.W.mg_none_of X G z4, b_all := PySem.W.mg_none_of X G z5, b_ValueError := PySem.W.mg_none_of X G z6 }
theorem all_mk {fa net : Addr} {Cs : List Addr} {od an : Option Addr} {osl : Array (Option Value)} {oc kV doc pm cdv ct : Value} (X : K.In h) (G : h.Ns mainGlobals mg) (hfa : mg "law" = some (.ref fa))
    (cn : ClsAt K mg bmT fI "NetError" net) (ca : CA K mg (.ref net :: bmT) fI ecM Cs)
    (hn : PySem.W.specialIn K (.builtin "object.__class__") "__get__" = some (some (.builtin "getset_descriptor.__get__"))) (ht : PySem.W.takesIn K (.builtin "object.__class__") = some true) (tI : PySem.W.typeIn K (.ref fI) = some (.type "function"))
    (lI : K.lookup fI = some ⟨oc, od, .func (PySem.W.fnOf "__init__" "NetError.__init__" (defArgs s_NetError___init__) (defBody s_NetError___init__) (defScope s_NetError___init__) .none kV doc pm an cdv ct), osl⟩) (cI : PySem.W.codeIn K cdv "NetError.__init__" = true) (kI : PySem.W.keepIn K (.ref fI) = true)
    (d1 : DefAt K mg "_law_pot" s__law_pot) (d2 : DefAt K mg "_law_take" s__law_take) (d3 : DefAt K mg "_law_of" s__law_of) (d4 : DefAt K mg "_law_cells" s__law_cells) (d5 : DefAt K mg "_law_odd" s__law_odd) (d6 : DefAt K mg "_law_made" s__law_made) (d7 : DefAt K mg "_law_made_too" s__law_made_too) (d8 : DefAt K mg "_law_made_more" s__law_made_more)
    (d9 : DefAt K mg "_law_kinds" s__law_kinds) (d10 : DefAt K mg "_law_kinds_too" s__law_kinds_too) (d11 : DefAt K mg "_law_kinds_more" s__law_kinds_more) (d12 : DefAt K mg "_law_right" s__law_right) (d13 : DefAt K mg "law" s_law)
    (z1 : PySem.W.nsIn K mainGlobals "isinstance" = some none) (z2 : PySem.W.nsIn K mainGlobals "repr" = some none) (z3 : PySem.W.nsIn K mainGlobals "enumerate" = some none) (z4 : PySem.W.nsIn K mainGlobals "range" = some none) (z5 : PySem.W.nsIn K mainGlobals "all" = some none) (z6 : PySem.W.nsIn K mainGlobals "ValueError" = some none)
    (y1 : PySem.W.nsIn K mainGlobals "int" = some none) (y2 : PySem.W.nsIn K mainGlobals "len" = some none) (y3 : PySem.W.nsIn K mainGlobals "abs" = some none) (y4 : PySem.W.nsIn K mainGlobals "sum" = some none) (y5 : PySem.W.nsIn K mainGlobals "list" = some none) (y6 : PySem.W.nsIn K mainGlobals "max" = some none) (y7 : PySem.W.nsIn K mainGlobals "min" = some none) :
    ∃ fd : FuncData, (∀ (s : Shared) (v : Value), BindsTo s fd ⟨[v], []⟩ [("script", v)]) ∧ ∀ base : Heap, K.In base → base.Ns mainGlobals mg → FnG P w K mg base CX0 6 fa fd ["script"] (spLaw K) := by
  have T := txt2_mk X G cn ca hn ht tI z1 z2 z3 z4 z5 z6
  have T0 : Txt K mg := ⟨PySem.W.mg_none_of X G y1, PySem.W.mg_none_of X G y2, PySem.W.mg_none_of X G y3, PySem.W.mg_none_of X G y4, PySem.W.mg_none_of X G y5, PySem.W.mg_none_of X G z4, PySem.W.mg_none_of X G y6, PySem.W.mg_none_of X G y7⟩
  have FI := fun_mk (st := s_NetError___init__) lI cI kI
  obtain ⟨f1, fd1, m1, F1, k1⟩ := d1.ex
  obtain ⟨f2, fd2, m2, F2, k2⟩ := d2.ex
  obtain ⟨f3, fd3, m3, F3, k3⟩ := d3.ex
  obtain ⟨f4, fd4, m4, F4, k4⟩ := d4.ex
  obtain ⟨f5, fd5, m5, F5, k5⟩ := d5.ex
  obtain ⟨f6, fd6, m6, F6, k6⟩ := d6.ex
  obtain ⟨f7, fd7, m7, F7, k7⟩ := d7.ex
  obtain ⟨f8, fd8, m8, F8, k8⟩ := d8.ex
  obtain ⟨f9, fd9, m9, F9, k9⟩ := d9.ex
  obtain ⟨f10, fd10, m10, F10, k10⟩ := d10.ex
  obtain ⟨f11, fd11, m11, F11, k11⟩ := d11.ex
  obtain ⟨f12, fd12, m12, F12, k12⟩ := d12.ex
  obtain ⟨f13, fd13, m13, F13, k13⟩ := d13.ex
  have e := hfa.symm.trans m13
  cases e
  obtain ⟨oc', od', kV', doc', pm', an', cdv', ct', osl', efd, _, _⟩ := F13.ex
  refine ⟨fd13, fun s v => by subst efd; exact .of_eq rfl, fun base _ _ => ?_⟩
  have I : Ini P w K mg base fI := ⟨⟨_, ok_init FI, FI.binds (ps := ["self", "value"]) fun _ _ _ _ _ _ us hl => match us, hl with | [_, _], _ => rfl⟩⟩
  have c1 := cal_of (ok_pot (P := P) (w := w) (base := base) F1 T0) m1 k1 (F1.binds (ps := ["script", "place"]) fun _ _ _ _ _ _ us hl => match us, hl with | [_, _], _ => rfl)
  have c2 := cal_of (ok_take (P := P) (w := w) (base := base) F2 T0) m2 k2 (F2.binds (ps := ["pot", "upto"]) fun _ _ _ _ _ _ us hl => match us, hl with | [_, _], _ => rfl)
  have c3 := cal_of (ok_of (P := P) (w := w) (base := base) F3 T0 c2) m3 k3 (F3.binds (ps := ["pot", "some"]) fun _ _ _ _ _ _ us hl => match us, hl with | [_, _], _ => rfl)
  have c4 := cal_of (ok_cells (P := P) (w := w) (base := base) F4 T0) m4 k4 (F4.binds (ps := ["script", "most"]) fun _ _ _ _ _ _ us hl => match us, hl with | [_, _], _ => rfl)
  have c5 := cal_of (ok_odd (P := P) (w := w) (base := base) F5 c3) m5 k5 (F5.binds (ps := ["pot"]) fun _ _ _ _ _ _ us hl => match us, hl with | [_], _ => rfl)
  have c7 := cal_of (ok_law_made_too (P := P) (w := w) (base := base) F7 T I) m7 k7 (F7.binds (ps := ["value"]) fun _ _ _ _ _ _ us hl => match us, hl with | [_], _ => rfl)
  have c8 := cal_of (ok_law_made_more (P := P) (w := w) (base := base) F8 T I) m8 k8 (F8.binds (ps := ["value"]) fun _ _ _ _ _ _ us hl => match us, hl with | [_], _ => rfl)
  have c6 := cal_of (ok_law_made (P := P) (w := w) (base := base) F6 T I c7 c8) m6 k6 (F6.binds (ps := ["value"]) fun _ _ _ _ _ _ us hl => match us, hl with | [_], _ => rfl)
  have c10 := cal_of (ok_law_kinds_too (P := P) (w := w) (base := base) F10 T) m10 k10 (F10.binds (ps := ["error"]) fun _ _ _ _ _ _ us hl => match us, hl with | [_], _ => rfl)
  have c11 := cal_of (ok_law_kinds_more (P := P) (w := w) (base := base) F11 T) m11 k11 (F11.binds (ps := ["error"]) fun _ _ _ _ _ _ us hl => match us, hl with | [_], _ => rfl)
  have c9 := cal_of (ok_law_kinds (P := P) (w := w) (base := base) F9 T c10 c11) m9 k9 (F9.binds (ps := ["error"]) fun _ _ _ _ _ _ us hl => match us, hl with | [_], _ => rfl)
  have b12 := F12.binds (ps := ["pot"]) fun _ _ _ _ _ _ us hl => match us, hl with | [_], _ => rfl
  exact ok_law F13 T c1 c4 ⟨⟨f12, fd12, _, ok_right F12 T I c5 c6 c9, m12, k12, b12⟩⟩
end
end DN

open PySem PySem.W PyProof.Rows
set_option maxRecDepth 100000 in
set_option maxHeartbeats 8000000 in
open_top head for PySem.Challenge.rw_downhillnet_k52_errors_keep_any_value
set_option maxRecDepth 100000 in
set_option maxHeartbeats 8000000 in
theorem PySem.Challenge.cw_downhillnet_k52_errors_keep_any_value_holds : PySem.Challenge.rw_downhillnet_k52_errors_keep_any_value.Holds :=
  head (by
  k_fill
  refine DN.walkG (l := PySem.Challenge.rw_downhillnet_k52_errors_keep_any_value) (n := 63) (k := 6) (x := "script") (sp := fun w => DN.spLaw _) rfl (by decide) rfl ⟨rfl, by decide, by decide⟩ (fun w h Y => PySem.W.kIn_of Y) ?F (fun _ _ a ns hl hS => ⟨a, ns, rfl, hS, hl, fun _ => rfl⟩)
  case F =>
    intro w mg fa h KX G hmg
    exact DN.all_mk KX G hmg
      (DN.cls_of (nm := "NetError") KX G (by k_is) (by k_is) (by k_is) (by k_is) (by k_is) (by k_is) (by k_is) (by k_is) (by k_is))
      (.cons (DN.cls_of (nm := "BadBook") KX G (by k_is) (by k_is) (by k_is) (by k_is) (by k_is) (by k_is) (by k_is) (by k_is) (by k_is))
      (.cons (DN.cls_of (nm := "BadNumber") KX G (by k_is) (by k_is) (by k_is) (by k_is) (by k_is) (by k_is) (by k_is) (by k_is) (by k_is))
      (.cons (DN.cls_of (nm := "BadName") KX G (by k_is) (by k_is) (by k_is) (by k_is) (by k_is) (by k_is) (by k_is) (by k_is) (by k_is))
      (.cons (DN.cls_of (nm := "BadStations") KX G (by k_is) (by k_is) (by k_is) (by k_is) (by k_is) (by k_is) (by k_is) (by k_is) (by k_is))
      (.cons (DN.cls_of (nm := "BadLinks") KX G (by k_is) (by k_is) (by k_is) (by k_is) (by k_is) (by k_is) (by k_is) (by k_is) (by k_is))
      (.cons (DN.cls_of (nm := "NoStation") KX G (by k_is) (by k_is) (by k_is) (by k_is) (by k_is) (by k_is) (by k_is) (by k_is) (by k_is))
      (.cons (DN.cls_of (nm := "NoLink") KX G (by k_is) (by k_is) (by k_is) (by k_is) (by k_is) (by k_is) (by k_is) (by k_is) (by k_is))
      (.cons (DN.cls_of (nm := "BadLot") KX G (by k_is) (by k_is) (by k_is) (by k_is) (by k_is) (by k_is) (by k_is) (by k_is) (by k_is))
      (.cons (DN.cls_of (nm := "BadTicks") KX G (by k_is) (by k_is) (by k_is) (by k_is) (by k_is) (by k_is) (by k_is) (by k_is) (by k_is))
      (.cons (DN.cls_of (nm := "TooMany") KX G (by k_is) (by k_is) (by k_is) (by k_is) (by k_is) (by k_is) (by k_is) (by k_is) (by k_is))
      (.cons (DN.cls_of (nm := "BadTick") KX G (by k_is) (by k_is) (by k_is) (by k_is) (by k_is) (by k_is) (by k_is) (by k_is) (by k_is))
      (.cons (DN.cls_of (nm := "BadNames") KX G (by k_is) (by k_is) (by k_is) (by k_is) (by k_is) (by k_is) (by k_is) (by k_is) (by k_is))
      (.cons (DN.cls_of (nm := "BadHeaps") KX G (by k_is) (by k_is) (by k_is) (by k_is) (by k_is) (by k_is) (by k_is) (by k_is) (by k_is))
      (.cons (DN.cls_of (nm := "NoFlow") KX G (by k_is) (by k_is) (by k_is) (by k_is) (by k_is) (by k_is) (by k_is) (by k_is) (by k_is))
      (.cons (DN.cls_of (nm := "BadMoves") KX G (by k_is) (by k_is) (by k_is) (by k_is) (by k_is) (by k_is) (by k_is) (by k_is) (by k_is))
      (.cons (DN.cls_of (nm := "BadCut") KX G (by k_is) (by k_is) (by k_is) (by k_is) (by k_is) (by k_is) (by k_is) (by k_is) (by k_is))
      (.cons (DN.cls_of (nm := "BadLevels") KX G (by k_is) (by k_is) (by k_is) (by k_is) (by k_is) (by k_is) (by k_is) (by k_is) (by k_is))
      (.cons (DN.cls_of (nm := "NoWay") KX G (by k_is) (by k_is) (by k_is) (by k_is) (by k_is) (by k_is) (by k_is) (by k_is) (by k_is))
      (.cons (DN.cls_of (nm := "NotHoming") KX G (by k_is) (by k_is) (by k_is) (by k_is) (by k_is) (by k_is) (by k_is) (by k_is) (by k_is))
      (.cons (DN.cls_of (nm := "BadPackets") KX G (by k_is) (by k_is) (by k_is) (by k_is) (by k_is) (by k_is) (by k_is) (by k_is) (by k_is))
      (.cons (DN.cls_of (nm := "BadEvent") KX G (by k_is) (by k_is) (by k_is) (by k_is) (by k_is) (by k_is) (by k_is) (by k_is) (by k_is))
      (.cons (DN.cls_of (nm := "BadEvents") KX G (by k_is) (by k_is) (by k_is) (by k_is) (by k_is) (by k_is) (by k_is) (by k_is) (by k_is))
      (.cons (DN.cls_of (nm := "BadWord") KX G (by k_is) (by k_is) (by k_is) (by k_is) (by k_is) (by k_is) (by k_is) (by k_is) (by k_is))
      (.cons (DN.cls_of (nm := "Unfit") KX G (by k_is) (by k_is) (by k_is) (by k_is) (by k_is) (by k_is) (by k_is) (by k_is) (by k_is))
      (.cons (DN.cls_of (nm := "NoDoor") KX G (by k_is) (by k_is) (by k_is) (by k_is) (by k_is) (by k_is) (by k_is) (by k_is) (by k_is))
      (.cons (DN.cls_of (nm := "TooFew") KX G (by k_is) (by k_is) (by k_is) (by k_is) (by k_is) (by k_is) (by k_is) (by k_is) (by k_is))
      (.cons (DN.cls_of (nm := "Held") KX G (by k_is) (by k_is) (by k_is) (by k_is) (by k_is) (by k_is) (by k_is) (by k_is) (by k_is))
      (.cons (DN.cls_of (nm := "BadLink") KX G (by k_is) (by k_is) (by k_is) (by k_is) (by k_is) (by k_is) (by k_is) (by k_is) (by k_is))
      (.cons (DN.cls_of (nm := "BadStation") KX G (by k_is) (by k_is) (by k_is) (by k_is) (by k_is) (by k_is) (by k_is) (by k_is) (by k_is))
      (.cons (DN.cls_of (nm := "NotPart") KX G (by k_is) (by k_is) (by k_is) (by k_is) (by k_is) (by k_is) (by k_is) (by k_is) (by k_is))
      (.cons (DN.cls_of (nm := "BadRule") KX G (by k_is) (by k_is) (by k_is) (by k_is) (by k_is) (by k_is) (by k_is) (by k_is) (by k_is))
      (.cons (DN.cls_of (nm := "BadDeed") KX G (by k_is) (by k_is) (by k_is) (by k_is) (by k_is) (by k_is) (by k_is) (by k_is) (by k_is))
      (.cons (DN.cls_of (nm := "NoNet") KX G (by k_is) (by k_is) (by k_is) (by k_is) (by k_is) (by k_is) (by k_is) (by k_is) (by k_is))
      (.cons (DN.cls_of (nm := "Amid") KX G (by k_is) (by k_is) (by k_is) (by k_is) (by k_is) (by k_is) (by k_is) (by k_is) (by k_is))
      (.cons (DN.cls_of (nm := "NotEmpty") KX G (by k_is) (by k_is) (by k_is) (by k_is) (by k_is) (by k_is) (by k_is) (by k_is) (by k_is))
      (.cons (DN.cls_of (nm := "LastOne") KX G (by k_is) (by k_is) (by k_is) (by k_is) (by k_is) (by k_is) (by k_is) (by k_is) (by k_is))
      (.cons (DN.cls_of (nm := "NothingToUndo") KX G (by k_is) (by k_is) (by k_is) (by k_is) (by k_is) (by k_is) (by k_is) (by k_is) (by k_is))
      (.cons (DN.cls_of (nm := "NothingToRedo") KX G (by k_is) (by k_is) (by k_is) (by k_is) (by k_is) (by k_is) (by k_is) (by k_is) (by k_is))
      (.cons (DN.cls_of (nm := "NoNote") KX G (by k_is) (by k_is) (by k_is) (by k_is) (by k_is) (by k_is) (by k_is) (by k_is) (by k_is))
      (.cons (DN.cls_of (nm := "BadDesk") KX G (by k_is) (by k_is) (by k_is) (by k_is) (by k_is) (by k_is) (by k_is) (by k_is) (by k_is))
      DN.CA.nil))))))))))))))))))))))))))))))))))))))))
      (by k_is) (by k_is) (by k_is) (by k_is) (by k_is) (by k_is)
      (DN.def_of (x := "_law_pot") KX G (by k_is) (by k_is) (by k_is) (by k_is))
      (DN.def_of (x := "_law_take") KX G (by k_is) (by k_is) (by k_is) (by k_is))
      (DN.def_of (x := "_law_of") KX G (by k_is) (by k_is) (by k_is) (by k_is))
      (DN.def_of (x := "_law_cells") KX G (by k_is) (by k_is) (by k_is) (by k_is))
      (DN.def_of (x := "_law_odd") KX G (by k_is) (by k_is) (by k_is) (by k_is))
      (DN.def_of (x := "_law_made") KX G (by k_is) (by k_is) (by k_is) (by k_is))
      (DN.def_of (x := "_law_made_too") KX G (by k_is) (by k_is) (by k_is) (by k_is))
      (DN.def_of (x := "_law_made_more") KX G (by k_is) (by k_is) (by k_is) (by k_is))
      (DN.def_of (x := "_law_kinds") KX G (by k_is) (by k_is) (by k_is) (by k_is))
      (DN.def_of (x := "_law_kinds_too") KX G (by k_is) (by k_is) (by k_is) (by k_is))
      (DN.def_of (x := "_law_kinds_more") KX G (by k_is) (by k_is) (by k_is) (by k_is))
      (DN.def_of (x := "_law_right") KX G (by k_is) (by k_is) (by k_is) (by k_is))
      (DN.def_of (x := "law") KX G (by k_is) (by k_is) (by k_is) (by k_is))
      (by k_is) (by k_is) (by k_is) (by k_is) (by k_is) (by k_is) (by k_is) (by k_is) (by k_is) (by k_is) (by k_is) (by k_is) (by k_is))

