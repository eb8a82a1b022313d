import PyProof.Rows.All
import Wide.All
import OpenK.AllK
import Wide.FinOn
import HandS.ForMost
import HandS.ForExc
import HandS.Wide
import HandS.Conv
import HandS.Codes
import HandS.Walk
import HandS.IsInst
import HandS.ExcInit
import HandS.ExcIs
import HandS.ExcField
import PyProof.ReprDict
import HandS.Lambda
import KE.OsGo
import PyProof.Rows.NestShow
import HandS.SetFor
import HandS.DictComp
import HandS.Iter
import HandS.Deep
import HandS.ListItems
import KE.KUnpackStar
import KE.GoesEnumKw
import HandS.Zip
import HandS.Star
import HandS.TryOnly
import HandS.OwnEq
import HandS.TupAny
import HandS.MakeKw
import HandS.WordsExc
import HandS.Gcd
import KE.KMathGC
import KE.GoesMore
import HandS.Style
import KE.KRevSl
import HandS.EndBits
import PyProof.EqKinds
import PySem.Challenge.RW_downhillnet_k04_whole_which_ticks_keep_a
set_option Elab.async false
set_option linter.all false
set_option maxRecDepth 100000
set_option maxHeartbeats 4000000
/-! ground: powers of great ints, the pot of draws -/
namespace DN
open PySem PySem.Spec PyProof.Rows L2

/-- ** of a base and a power of together at most 2 ^ 27 bits -/
def CPowW (i j : Int) : Prop := 0 ≤ j ∧ (Builtin.Int.intBits i : Int) * j ≤ 2 ^ 27
section
variable {X : Cx}
theorem op_powW : OpR X (binaryOp .Pow) (rI CPowW fun i j => .int (i ^ j.toNat)) := opI fun _ _ _ _ _ _ _ hc q => pow_int hc.1 hc.2 q
end
theorem powW_of {i j : Int} {a : Nat} (ha : i.natAbs < 2 ^ a) (h0 : 0 < a) (hj : 0 ≤ j) (h : (a + 1 : Int) * j ≤ 2 ^ 27) : CPowW i j := by
  refine ⟨hj, Int.le_trans (Int.mul_le_mul_of_nonneg_right ?_ hj) h⟩
  have x := PySem.Flt.log2_lt_of h0 ha
  unfold Builtin.Int.intBits
  split <;> omega
end DN

/-! ground 1: data, what a heap says of them, judgements over data -/
namespace DN
open PySem PySem.Spec PyProof.Rows L2

inductive D where
  | non | bl (b : Bool) | int (i : Int) | str (s : Str) | tup (l : List D) | lst (l : List D) | dct (l : List (Key × D)) | ins (C : Addr) (l : List (Str × D)) | exc (C : Addr) (d : D) | opq (v : V) | scr (ns : List Int) | cau (a p C : Addr) (d : D)

mutual
inductive At (K : PySem.W.Frag) (G : Hp) : V → D → Prop
  | non : At K G .non .non
  | bl (b : Bool) : At K G (.bl b) (.bl b)
  | int (i : Int) : At K G (.int i) (.int i)
  | str (s : Str) : At K G (.str s) (.str s)
  | tup {a : Addr} {xs : List V} {ds : List D} : SqT K G a xs → AtL K G xs ds → At K G (.ref a) (.tup ds)
  | lst {a : Addr} {xs : List V} {ds : List D} : G a = some (.lst xs) → AtL K G xs ds → At K G (.ref a) (.lst ds)
  | dct {a : Addr} {kvs : List (Key × V)} {es : List (Key × D)} : G a = some (.dK kvs) → AtK K G kvs es → At K G (.ref a) (.dct es)
  | ins {a C dx : Addr} {fs : List (Str × V)} {es : List (Str × D)} : G a = some (.ins C dx fs) → AtF K G fs es → At K G (.ref a) (.ins C es)
  | exc {a C dx : Addr} {v : V} {d : D} : G a = some (exo a C (some dx)) → G dx = some (exd dx [("value", v)]) → At K G v d → At K G (.ref a) (.exc C d)
  | opq (v : V) : At K G v (.opq v)
  | scr {a : Addr} {ns : List Int} : SqL K G a (ns.map V.int) → At K G (.ref a) (.scr ns)
  | cau {a p C : Addr} {v : V} {d : D} : G p = some (.xd [("value", v)]) → At K G v d → At K G (.ref a) (.cau a p C d)
inductive AtL (K : PySem.W.Frag) (G : Hp) : List V → List D → Prop
  | nil : AtL K G [] []
  | cons {v : V} {vs : List V} {d : D} {ds : List D} : At K G v d → AtL K G vs ds → AtL K G (v :: vs) (d :: ds)
inductive AtK (K : PySem.W.Frag) (G : Hp) : List (Key × V) → List (Key × D) → Prop
  | nil : AtK K G [] []
  | cons {k : Key} {v : V} {vs : List (Key × V)} {d : D} {ds : List (Key × D)} : At K G v d → AtK K G vs ds → AtK K G ((k, v) :: vs) ((k, d) :: ds)
inductive AtF (K : PySem.W.Frag) (G : Hp) : List (Str × V) → List (Str × D) → Prop
  | nil : AtF K G [] []
  | cons {k : Str} {v : V} {vs : List (Str × V)} {d : D} {ds : List (Str × D)} : At K G v d → AtF K G vs ds → AtF K G ((k, v) :: vs) ((k, d) :: ds)
end

theorem Same.rd {H H' : Hp} {a : Addr} {u : HO} (e : Same H H') (h : Rd H a u) : Rd H' a u := by
  rcases h with h | ⟨o, h⟩
  · exact .inl (e _ _ h)
  · exact .inr ⟨o, e _ _ h⟩
theorem Same.sqT {K : PySem.W.Frag} {H H' : Hp} {a : Addr} {xs : List V} (e : Same H H') (h : SqT K H a xs) : SqT K H' a xs := by
  rcases h with h | h
  · exact .inl (Same.rd e h)
  · exact .inr h
theorem Same.sqL {K : PySem.W.Frag} {H H' : Hp} {a : Addr} {xs : List V} (e : Same H H') (h : SqL K H a xs) : SqL K H' a xs := Same.seq e h
theorem same_new {H : Hp} {p : Addr} {o : HO} (h : H p = none) : Same H (upd H p o) := fun a u e => by
  rw [upd_ne (ne_of_none e h)]
  exact e

section
variable {K : PySem.W.Frag} {G G' : Hp}
theorem At.mono (e : Same G G') {v : V} {d : D} (h : At K G v d) : At K G' v d :=
  At.rec (motive_1 := fun v d _ => At K G' v d) (motive_2 := fun vs ds _ => AtL K G' vs ds) (motive_3 := fun vs ds _ => AtK K G' vs ds) (motive_4 := fun vs ds _ => AtF K G' vs ds)
    .non .bl .int .str (fun h _ ih => .tup (Same.sqT e h) ih) (fun h _ ih => .lst (e _ _ h) ih) (fun h _ ih => .dct (e _ _ h) ih) (fun h _ ih => .ins (e _ _ h) ih) (fun h h2 _ ih => .exc (e _ _ h) (e _ _ h2) ih) .opq (fun h => .scr (Same.sqL e h)) (fun h _ ih => .cau (e _ _ h) ih)
    .nil (fun _ _ i1 i2 => .cons i1 i2) .nil (fun _ _ i1 i2 => .cons i1 i2) .nil (fun _ _ i1 i2 => .cons i1 i2) h
theorem AtL.mono (e : Same G G') : ∀ {vs : List V} {ds : List D}, AtL K G vs ds → AtL K G' vs ds
  | _, _, .nil => .nil
  | _, _, .cons h t => .cons (h.mono e) (AtL.mono e t)
theorem AtK.mono (e : Same G G') : ∀ {vs : List (Key × V)} {ds : List (Key × D)}, AtK K G vs ds → AtK K G' vs ds
  | _, _, .nil => .nil
  | _, _, .cons h t => .cons (h.mono e) (AtK.mono e t)
theorem AtF.mono (e : Same G G') : ∀ {vs : List (Str × V)} {ds : List (Str × D)}, AtF K G vs ds → AtF K G' vs ds
  | _, _, .nil => .nil
  | _, _, .cons h t => .cons (h.mono e) (AtF.mono e t)
theorem AtL.len : ∀ {vs : List V} {ds : List D}, AtL K G vs ds → vs.length = ds.length
  | _, _, .nil => rfl
  | _, _, .cons _ t => congrArg (· + 1) (AtL.len t)
theorem AtL.app : ∀ {vs ws : List V} {ds es : List D}, AtL K G vs ds → AtL K G ws es → AtL K G (vs ++ ws) (ds ++ es)
  | _, _, _, _, .nil, h => h
  | _, _, _, _, .cons h t, u => .cons h (AtL.app t u)
theorem AtL.get : ∀ {vs : List V} {ds : List D} {i : Nat} {d : D}, AtL K G vs ds → ds[i]? = some d → ∃ v, vs[i]? = some v ∧ At K G v d
  | _, _, _, _, .nil, e => by simp at e
  | _, _, 0, _, .cons h _, e => by
    have e' := Option.some.inj e
    subst e'
    exact ⟨_, rfl, h⟩
  | _, _, i + 1, d, .cons _ t, e => by
    obtain ⟨v, h1, h2⟩ := AtL.get (i := i) (d := d) t (by simpa using e)
    exact ⟨v, by simpa using h1, h2⟩
theorem AtL.getv : ∀ {vs : List V} {ds : List D} {i : Nat} {v : V}, AtL K G vs ds → vs[i]? = some v → ∃ d, ds[i]? = some d ∧ At K G v d
  | _, _, _, _, .nil, e => by simp at e
  | _, _, 0, _, .cons h _, e => by
    have e' := Option.some.inj e
    subst e'
    exact ⟨_, rfl, h⟩
  | _, _, i + 1, d, .cons _ t, e => by
    obtain ⟨v, h1, h2⟩ := AtL.getv (i := i) (v := d) t (by simpa using e)
    exact ⟨v, by simpa using h1, h2⟩
theorem AtL.take (n : Nat) : ∀ {vs : List V} {ds : List D}, AtL K G vs ds → AtL K G (vs.take n) (ds.take n) := by
  induction n with
  | zero => intro vs ds _; simpa using AtL.nil
  | succ n ih =>
    intro vs ds h
    cases h with
    | nil => simpa using AtL.nil
    | cons h t => simpa using AtL.cons h (ih t)
theorem AtL.drop (n : Nat) : ∀ {vs : List V} {ds : List D}, AtL K G vs ds → AtL K G (vs.drop n) (ds.drop n) := by
  induction n with
  | zero => intro vs ds h; simpa using h
  | succ n ih =>
    intro vs ds h
    cases h with
    | nil => simpa using AtL.nil
    | cons h t => simpa using ih t
theorem AtL.ints : ∀ {vs : List V} {ns : List Int}, AtL K G vs (ns.map D.int) → vs = ns.map V.int
  | _, [], .nil => rfl
  | _, n :: r, .cons h t => by
    cases h
    rw [AtL.ints t]; rfl
theorem AtL.strs : ∀ {vs : List V} {ns : List Str}, AtL K G vs (ns.map D.str) → vs = ns.map V.str
  | _, [], .nil => rfl
  | _, n :: r, .cons h t => by
    cases h
    rw [AtL.strs t]; rfl
theorem AtL.bls : ∀ {vs : List V} {ns : List Bool}, AtL K G vs (ns.map D.bl) → vs = ns.map V.bl
  | _, [], .nil => rfl
  | _, n :: r, .cons h t => by
    cases h
    rw [AtL.bls t]; rfl
theorem atL_ints : ∀ (ns : List Int), AtL K G (ns.map V.int) (ns.map D.int)
  | [] => .nil
  | n :: r => .cons (.int n) (atL_ints r)
theorem atL_strs : ∀ (ns : List Str), AtL K G (ns.map V.str) (ns.map D.str)
  | [] => .nil
  | n :: r => .cons (.str n) (atL_strs r)
theorem atL_bls : ∀ (ns : List Bool), AtL K G (ns.map V.bl) (ns.map D.bl)
  | [] => .nil
  | n :: r => .cons (.bl n) (atL_bls r)
end

/-! ### what moves: tables of code objects, the pot -/
class Tb where
  T : List (Addr × Str)
  on : Bool
/-- what may be changed: nothing; the pot, and tables; tables -/
inductive Rh where
  | none | some (a : Addr) | law
def TbA [Tb] : List Addr := Tb.T.map (·.1)
def Mv [Tb] (ρ : Rh) (b : Addr) : Prop := ρ = .some b ∨ (ρ ≠ .none ∧ b ∈ TbA)
abbrev Fx [Tb] (ρ : Rh) (b : Addr) : Prop := ¬ Mv ρ b
variable [Tb]
theorem fxN {b : Addr} : Fx .none b := fun h => by
  rcases h with h | h
  · cases h
  · exact h.1 rfl
theorem Fx.ne {ρ : Rh} {b : Addr} (h : Fx ρ b) : ρ ≠ .some b := fun e => h (.inl e)
theorem tabs_ta {H : Hp} {b : Addr} (h : LamX.Tabs Tb.T H) (hb : b ∈ TbA) : ∃ ps, H b = some (.tbl ps) := by
  obtain ⟨p, hp, rfl⟩ := List.mem_map.mp hb
  obtain ⟨ps, h1, _⟩ := h p hp
  exact ⟨ps, h1⟩
/-- a datum's object: no table, no code object -/
def dat : HO → Bool
  | .lst _ => true
  | .dK _ => true
  | .ins _ _ _ => true
  | .tup _ => true
  | _ => false
theorem tabs_upd {H : Hp} {p : Addr} {o u : HO} (h : LamX.Tabs Tb.T H) (hp : H p = some u) (hu : dat u = true) : LamX.Tabs Tb.T (upd H p o) := fun x hx => by
  obtain ⟨ps, h1, h2, h3⟩ := h x hx
  refine ⟨ps, ?_, h2, fun pos cv hc => ?_⟩
  · rw [upd_ne (fun z => by rw [z, hp] at h1; cases h1; cases hu)]
    exact h1
  · obtain ⟨c, e1, e2⟩ := h3 pos cv hc
    refine ⟨c, e1, ?_⟩
    rw [upd_ne (fun z => by
      rw [z, hp] at e2
      unfold LamX.CodeO at e2
      cases e2
      cases hu)]
    exact e2
theorem tabs_new {H : Hp} {p : Addr} {o : HO} (h : LamX.Tabs Tb.T H) (hp : H p = none) : LamX.Tabs Tb.T (upd H p o) := h.ext fun b o e => by
  rw [upd_ne (ne_of_none e hp)]; exact e
def OnlyT (H : Hp) : Prop := Tb.on = true → ∀ b ps, H b = some (.tbl ps) → b ∈ TbA
abbrev Nt (o : HO) : Prop := ∀ ps, o ≠ .tbl ps
theorem OnlyT.upd {H : Hp} {p : Addr} {o : HO} (h : OnlyT H) (ho : Nt o) : OnlyT (L2.upd H p o) := fun on b ps e => by
  by_cases z : b = p
  · subst z; rw [upd_same] at e; exact absurd (Option.some.inj e) (ho ps)
  · rw [upd_ne z] at e; exact h on b ps e
theorem nt_dat {o : HO} (h : dat o = true) : Nt o := fun ps e => by subst e; cases h
/-! ### the pot -/
def potO (o b c : Int) : HO := .lst [.int o, .int b, .int c]
structure PotB (o b c : Int) (m : Nat) : Prop where
  o0 : 0 ≤ o
  o1 : o.natAbs < 2 ^ 1100
  b0 : 0 ≤ b
  b1 : b < 2 ^ 62
  c0 : 0 ≤ c
  c1 : c ≤ m
def Pot (m : Nat) (H : Hp) (a : Addr) : Prop := ∃ o b c, H a = some (potO o b c) ∧ PotB o b c m
theorem Pot.le {m n : Nat} {H : Hp} {a : Addr} (h : Pot m H a) (e : m ≤ n) : Pot n H a := by
  obtain ⟨o, b, c, h, B⟩ := h
  exact ⟨o, b, c, h, ⟨B.o0, B.o1, B.b0, B.b1, B.c0, by have := B.c1; omega⟩⟩
structure PotS (ρ : Rh) (m : Nat) (H : Hp) : Prop where
  tabs : LamX.Tabs Tb.T H
  only : OnlyT H
  pot : ∀ a, ρ = .some a → Pot m H a
theorem PotS.ne {ρ : Rh} {m : Nat} {H : Hp} {b : Addr} (p : PotS ρ m H) (h : Mv ρ b) : H b ≠ none := by
  rcases h with h | h
  · obtain ⟨_, _, _, h, _⟩ := p.pot b h
    rw [h]; simp
  · obtain ⟨ps, h⟩ := tabs_ta p.tabs h.2
    rw [h]; simp
theorem PotS.fx {ρ : Rh} {m : Nat} {H : Hp} {b : Addr} (p : PotS ρ m H) (h : H b = none) : Fx ρ b := fun z => p.ne z h
/-- a datum's object is laid anew -/
theorem PotS.set {ρ : Rh} {m : Nat} {H : Hp} {b : Addr} {o u : HO} (p : PotS ρ m H) (h : Fx ρ b) (hb : H b = some u) (hu : dat u = true) (ho : Nt o := by (intro _ z; cases z)) : PotS ρ m (upd H b o) :=
  ⟨tabs_upd p.tabs hb hu, p.only.upd ho, fun a e => by
    obtain ⟨x, y, z, hp, B⟩ := p.pot a e
    exact ⟨x, y, z, by rw [upd_ne (fun q => h (.inl (by rw [← q]; exact e)))]; exact hp, B⟩⟩
theorem PotS.new {ρ : Rh} {m : Nat} {H : Hp} {b : Addr} {o : HO} (p : PotS ρ m H) (h : H b = none) (ho : Nt o := by (intro _ z; cases z)) : PotS ρ m (upd H b o) :=
  ⟨tabs_new p.tabs h, p.only.upd ho, fun a e => by
    obtain ⟨x, y, z, hp, B⟩ := p.pot a e
    exact ⟨x, y, z, by rw [upd_ne (ne_of_none hp h)]; exact hp, B⟩⟩
theorem PotS.off {ρ : Rh} {m m' : Nat} {H : Hp} (p : PotS ρ m H) : PotS .none m' H := ⟨p.tabs, p.only, fun _ e => nomatch e⟩
theorem PotS.law {ρ : Rh} {m m' : Nat} {H : Hp} (p : PotS ρ m H) : PotS .law m' H := ⟨p.tabs, p.only, fun _ e => nomatch e⟩
theorem mv_law {b : Addr} : Mv .law b ↔ b ∈ TbA := ⟨fun h => h.elim (fun e => nomatch e) (·.2), fun h => .inr ⟨(fun e => nomatch e), h⟩⟩
theorem PotS.le {ρ : Rh} {m n : Nat} {H : Hp} (p : PotS ρ m H) (h : m ≤ n) : PotS ρ n H := ⟨p.tabs, p.only, fun a e => (p.pot a e).le h⟩
abbrev Mx : Nat := 2 ^ 40

/-! ### from one heap to another -/
structure Gd (ρ : Rh) (G H G' H' : Hp) : Prop where
  keep : ∀ b o, Fx ρ b → H b = some o → H' b = some o
  gg : Same G G'
  sub : Same G' H'
  new : ∀ b, G' b ≠ none → G b ≠ none ∨ H b = none
  ot : OnlyT H → OnlyT H'
theorem Gd.refl {ρ : Rh} {G H : Hp} (h : Same G H) : Gd ρ G H G H := ⟨fun _ _ _ e => e, Same.refl _, h, fun _ e => .inl e, id⟩
theorem Gd.weak {ρ : Rh} {G H G' H' : Hp} (h : Gd .none G H G' H') : Gd ρ G H G' H' := ⟨fun b o _ e => h.keep b o fxN e, h.gg, h.sub, h.new, h.ot⟩
theorem ne_none_of {H : Hp} {b : Addr} {o : HO} (h : H b = some o) : H b ≠ none := by rw [h]; simp
theorem Gd.trans {ρ : Rh} {G H G1 H1 G2 H2 : Hp} {m : Nat} (p : PotS ρ m H1) (a : Gd ρ G H G1 H1) (b : Gd ρ G1 H1 G2 H2) : Gd ρ G H G2 H2 where
  keep := fun c o n e => b.keep c o n (a.keep c o n e)
  gg := a.gg.trans b.gg
  ot := fun h => b.ot (a.ot h)
  sub := b.sub
  new := fun c e => by
    rcases b.new c e with h | h
    · exact a.new c h
    · cases q : H c with
      | none => exact .inr rfl
      | some o =>
        by_cases z : Mv ρ c
        · exact absurd h (p.ne z)
        · rw [a.keep c o z q] at h; cases h
theorem Gd.trans' {G H G1 H1 G2 H2 : Hp} (a : Gd .none G H G1 H1) (b : Gd .none G1 H1 G2 H2) : Gd .none G H G2 H2 where
  keep := fun c o n e => b.keep c o n (a.keep c o n e)
  gg := a.gg.trans b.gg
  ot := fun h => b.ot (a.ot h)
  sub := b.sub
  new := fun c e => by
    rcases b.new c e with h | h
    · exact a.new c h
    · cases q : H c with
      | none => exact .inr rfl
      | some o => rw [a.keep c o fxN q] at h; cases h
theorem Gd.trans0 {G H G1 H1 G2 H2 : Hp} (a : Gd .none G H G1 H1) (b : Gd .none G1 H1 G2 H2) : Gd .none G H G2 H2 := Gd.trans' a b
/-- a new object, known from now on -/
theorem Gd.alloc {G H : Hp} {p : Addr} {o : HO} (h : Same G H) (n : H p = none) (ho : Nt o := by (intro _ z; cases z)) : Gd .none G H (upd G p o) (upd H p o) where
  ot := fun h => h.upd ho
  keep := fun b u _ e => by rw [upd_ne (ne_of_none e n)]; exact e
  gg := same_new (h.free n)
  sub := fun b u e => by
    by_cases z : b = p
    · subst z; rw [upd_same] at e ⊢; exact e
    · rw [upd_ne z] at e ⊢; exact h _ _ e
  new := fun b e => by
    by_cases z : b = p
    · subst z; exact .inr n
    · rw [upd_ne z] at e; exact .inl e
/-- a new object, not known -/
theorem Gd.alloc0 {G H : Hp} {p : Addr} {o : HO} (h : Same G H) (n : H p = none) (ho : Nt o := by (intro _ z; cases z)) : Gd .none G H G (upd H p o) where
  ot := fun h => h.upd ho
  keep := fun b u _ e => by rw [upd_ne (ne_of_none e n)]; exact e
  gg := Same.refl _
  sub := h.trans (same_new n)
  new := fun b e => .inl e

/-! ### slots -/
inductive OAt (K : PySem.W.Frag) (G : Hp) : HO → D → Prop
  | lst {xs : List V} {ds : List D} : AtL K G xs ds → OAt K G (.lst xs) (.lst ds)
  | dct {kvs : List (Key × V)} {es : List (Key × D)} : AtK K G kvs es → OAt K G (.dK kvs) (.dct es)
  | ins {C dx : Addr} {fs : List (Str × V)} {es : List (Str × D)} : AtF K G fs es → OAt K G (.ins C dx fs) (.ins C es)
theorem OAt.mono {K : PySem.W.Frag} {G G' : Hp} (e : Same G G') {o : HO} {d : D} (h : OAt K G o d) : OAt K G' o d := by
  cases h with
  | lst h => exact .lst (h.mono e)
  | dct h => exact .dct (h.mono e)
  | ins h => exact .ins (h.mono e)
theorem OAt.at {K : PySem.W.Frag} {G : Hp} {o : HO} {d : D} {p : Addr} (h : OAt K G o d) (hp : G p = some o) : At K G (.ref p) d := by
  cases h with
  | lst h => exact .lst hp h
  | dct h => exact .dct hp h
  | ins h => exact .ins hp h
theorem OAt.dat {K : PySem.W.Frag} {G : Hp} {o : HO} {d : D} (h : OAt K G o d) : DN.dat o = true := by cases h <;> rfl
/-- a slot: a datum that stays as it is; a list or dict of the def's own that may grow -/
inductive Sl where
  | val (d : D) | own (d : D) | lent (d : D)
abbrev Dl := List (Option Sl)
def SlotOk (ρ : Rh) (K : PySem.W.Frag) (H0 G H : Hp) (v : V) : Sl → Prop
  | .val d => At K G v d
  | .own d => ∃ p o, v = .ref p ∧ H p = some o ∧ OAt K G o d ∧ G p = none ∧ H0 p = none
  | .lent d => ∃ p o, v = .ref p ∧ H p = some o ∧ OAt K G o d ∧ G p = none ∧ H0 p ≠ none ∧ Fx ρ p
structure Wf (ρ : Rh) (K : PySem.W.Frag) (G0 H0 G H : Hp) (σ : L2.St) (δ : Dl) (m : Nat) : Prop where
  len : σ.length = δ.length
  gd : Gd ρ G0 H0 G H
  pot : PotS ρ m H
  pot0 : ∀ a, Mv ρ a → H0 a ≠ none ∧ G0 a = none
  sl : ∀ (i : Nat) (s : Sl), δ[i]? = some (some s) → ∃ v, σ[i]? = some (some v) ∧ SlotOk ρ K H0 G H v s
  ap : ∀ (i j : Nat) (d e : D), i ≠ j → δ[i]? = some (some (.own d)) → δ[j]? = some (some (.own e)) → σ[i]? ≠ σ[j]?
theorem Wf.step {ρ : Rh} {K : PySem.W.Frag} {G0 H0 G H G' H' : Hp} {σ : L2.St} {δ : Dl} {m m' : Nat} (w : Wf ρ K G0 H0 G H σ δ m) (g : Gd ρ G H G' H') (p : PotS ρ m' H') : Wf ρ K G0 H0 G' H' σ δ m' where
  len := w.len
  gd := Gd.trans w.pot w.gd g
  pot := p
  pot0 := w.pot0
  sl := fun i s e => by
    obtain ⟨v, h1, h2⟩ := w.sl i s e
    refine ⟨v, h1, ?_⟩
    cases s with
    | val d => exact At.mono g.gg h2
    | own ds =>
      obtain ⟨q, xs, rfl, hq, ha, hn, h0⟩ := h2
      have nr : Fx ρ q := fun z => (w.pot0 q z).1 h0
      refine ⟨q, xs, rfl, g.keep q _ nr hq, OAt.mono g.gg ha, ?_, h0⟩
      cases z : G' q with
      | none => rfl
      | some o =>
        rcases g.new q (ne_none_of z) with y | y
        · exact absurd hn y
        · rw [hq] at y; cases y
    | lent ds =>
      obtain ⟨q, xs, rfl, hq, ha, hn, h0, nr⟩ := h2
      refine ⟨q, xs, rfl, g.keep q _ nr hq, OAt.mono g.gg ha, ?_, h0, nr⟩
      cases z : G' q with
      | none => rfl
      | some o =>
        rcases g.new q (ne_none_of z) with y | y
        · exact absurd hn y
        · rw [hq] at y; cases y
  ap := w.ap
theorem Wf.gnone {ρ : Rh} {K : PySem.W.Frag} {G0 H0 G H : Hp} {σ : L2.St} {δ : Dl} {m : Nat} {a : Addr} (w : Wf ρ K G0 H0 G H σ δ m) (e : Mv ρ a) : G a = none := by
  obtain ⟨h1, h2⟩ := w.pot0 a e
  cases z : G a with
  | none => rfl
  | some o =>
    rcases w.gd.new a (ne_none_of z) with y | y
    · exact absurd h2 y
    · exact absurd y h1
theorem PotS.keep {ρ : Rh} {m : Nat} {G H G' H' : Hp} (p : PotS ρ m H) (g : Gd .none G H G' H') : PotS ρ m H' :=
  ⟨p.tabs.ext fun b o e => g.keep b o fxN e, g.ot p.only, fun a e => let ⟨o, b, c, h, B⟩ := p.pot a e; ⟨o, b, c, g.keep _ _ fxN h, B⟩⟩

/-! ### judgements -/
section
variable (ρ : Rh) (K : PySem.W.Frag)
/-- te gives a datum of which P holds, by at most k draws -/
structure EJ (te : TE) (δ : Dl) (k : Nat) (P : D → Prop)  : Prop where
  run : ∀ (G0 H0 G H : Hp) (σ : L2.St) (m : Nat) (Q : VK), Wf ρ K G0 H0 G H σ δ m → m + k ≤ Mx →
  (∀ d v G' H' m', P d → Wf ρ K G0 H0 G' H' σ δ m' → Gd ρ G H G' H' → m' ≤ m + k → At K G' v d → Q v H') → te σ H Q
structure EA (ta : TA) (δ : Dl) (k : Nat) (P : List D → Prop)  : Prop where
  run : ∀ (G0 H0 G H : Hp) (σ : L2.St) (m : Nat) (Q : List V → Hp → Prop), Wf ρ K G0 H0 G H σ δ m → m + k ≤ Mx →
  (∀ ds vs G' H' m', P ds → Wf ρ K G0 H0 G' H' σ δ m' → Gd ρ G H G' H' → m' ≤ m + k → AtL K G' vs ds → Q vs H') → ta σ H Q
structure ET (tt : TT) (δ : Dl) (k : Nat) (P : Bool → Prop)  : Prop where
  run : ∀ (G0 H0 G H : Hp) (σ : L2.St) (m : Nat) (Q : Bool → Hp → Prop), Wf ρ K G0 H0 G H σ δ m → m + k ≤ Mx →
  (∀ b G' H' m', P b → Wf ρ K G0 H0 G' H' σ δ m' → Gd ρ G H G' H' → m' ≤ m + k → Q b H') → tt σ H Q
/-- the same of one datum, without draws -/
abbrev ED (te : TE) (δ : Dl) (d : D) : Prop := EJ ρ K te δ 0 (· = d)
abbrev EDA (ta : TA) (δ : Dl) (ds : List D) : Prop := EA ρ K ta δ 0 (· = ds)
abbrev EB (tt : TT) (δ : Dl) (b : Bool) : Prop := ET ρ K tt δ 0 (· = b)
/-- operations on values -/
structure RJ (r : R2) (a b c : D)  : Prop where
  run : ∀ (x y : V) (G H : Hp) (Q : VK), At K G x a → At K G y b → Same G H → (∀ v G' H', Gd .none G H G' H' → At K G' v c → Q v H') → r x y H Q
structure UJ (r : V → Hp → VK → Prop) (a c : D)  : Prop where
  run : ∀ (x : V) (G H : Hp) (Q : VK), At K G x a → Same G H → (∀ v G' H', Gd .none G H G' H' → At K G' v c → Q v H') → r x H Q
structure CJ (r : List V → Hp → VK → Prop) (as : List D) (c : D)  : Prop where
  run : ∀ (xs : List V) (G H : Hp) (Q : VK), AtL K G xs as → Same G H → (∀ v G' H', Gd .none G H G' H' → At K G' v c → Q v H') → r xs H Q
end

section
variable {ρ : Rh} {K : PySem.W.Frag} {δ : Dl} {te ta tb tc : TE} {tr t : TA} {tt tu : TT} {k k1 k2 k3 : Nat} {P P1 P2 : D → Prop} {a b c d : D} {as : List D} {r : R2}
theorem EJ.mono {k' : Nat} {P' : D → Prop} (h : EJ ρ K te δ k P) (hk : k ≤ k') (hp : ∀ d, P d → P' d) : EJ ρ K te δ k' P' := .mk fun G0 H0 G H σ m Q w hm q =>
  (h).run G0 H0 G H σ m Q w (by omega) fun d v G' H' m' p w' g l x => q d v G' H' m' (hp d p) w' g (by omega) x
theorem ET.mono {k' : Nat} {P P' : Bool → Prop} (h : ET ρ K tt δ k P) (hk : k ≤ k') (hp : ∀ d, P d → P' d) : ET ρ K tt δ k' P' := .mk fun G0 H0 G H σ m Q w hm q =>
  (h).run G0 H0 G H σ m Q w (by omega) fun d G' H' m' p w' g l => q d G' H' m' (hp d p) w' g (by omega)
theorem ed_var {i : Nat} (h : δ[i]? = some (some (.val d))) : ED ρ K (tVar i) δ d := .mk fun G0 H0 G H σ m Q w hm q => by
  obtain ⟨v, h1, h2⟩ := w.sl i _ h
  exact ⟨v, h1, q d v G H m rfl w (Gd.refl w.gd.sub) (Nat.le_refl _) h2⟩
theorem ed_c {v : V} (h : ∀ G, At K G v d) : ED ρ K (tC v) δ d := .mk fun G0 H0 G H σ m Q w hm q => q d v G H m rfl w (Gd.refl w.gd.sub) (Nat.le_refl _) (h G)
theorem ed_int {i : Int} : ED ρ K (tC (.int i)) δ (.int i) := ed_c fun _ => .int i
theorem ed_str {i : Str} : ED ρ K (tC (.str i)) δ (.str i) := ed_c fun _ => .str i
theorem ed_bl {i : Bool} : ED ρ K (tC (.bl i)) δ (.bl i) := ed_c fun _ => .bl i
theorem ed_non : ED ρ K (tC .non) δ .non := ed_c fun _ => .non
theorem ed_opq {v : V} : ED ρ K (tC v) δ (.opq v) := ed_c fun _ => .opq v
theorem ej_op (ha : EJ ρ K ta δ k1 P1) (hb : ∀ a, P1 a → EJ ρ K tb δ k2 P2) (hr : ∀ a b, P1 a → P2 b → ∃ c, P c ∧ RJ K r a b c) : EJ ρ K (tOp r ta tb) δ (k1 + k2) P := .mk fun G0 H0 G H σ m Q w hm q =>
  (ha).run G0 H0 G H σ m _ w (by omega) fun x vx G1 H1 m1 px w1 g1 l1 ax => (hb x px).run G0 H0 G1 H1 σ m1 _ w1 (by omega) fun y vy G2 H2 m2 py w2 g2 l2 ay => by
    obtain ⟨c, pc, rj⟩ := hr x y px py
    refine rj.run vx vy G2 H2 Q (ax.mono g2.gg) ay w2.gd.sub fun v G3 H3 g3 av => ?_
    exact q c v G3 H3 m2 pc (w2.step g3.weak (w2.pot.keep g3)) (Gd.trans w2.pot (Gd.trans w1.pot g1 g2) g3.weak) (by omega) av
theorem ed_op (ha : ED ρ K ta δ a) (hb : ED ρ K tb δ b) (hr : RJ K r a b c) : ED ρ K (tOp r ta tb) δ c :=
  ej_op ha (fun _ _ => hb) fun x y ex ey => ⟨c, rfl, by subst ex ey; exact hr⟩
theorem ej_un {r : V → Hp → VK → Prop} (ha : EJ ρ K ta δ k P1) (hr : ∀ a, P1 a → ∃ c, P c ∧ UJ K r a c) : EJ ρ K (tUn r ta) δ k P := .mk fun G0 H0 G H σ m Q w hm q =>
  (ha).run G0 H0 G H σ m _ w (by omega) fun x vx G1 H1 m1 px w1 g1 l1 ax => by
    obtain ⟨c, pc, rj⟩ := hr x px
    refine rj.run vx G1 H1 Q ax w1.gd.sub fun v G3 H3 g3 av => ?_
    exact q c v G3 H3 m1 pc (w1.step g3.weak (w1.pot.keep g3)) (Gd.trans w1.pot g1 g3.weak) (by omega) av
theorem ed_un {r : V → Hp → VK → Prop} (ha : ED ρ K ta δ a) (hr : UJ K r a c) : ED ρ K (tUn r ta) δ c := ej_un ha fun x e => ⟨c, rfl, by subst e; exact hr⟩
/-! arguments -/
theorem ea_nil : EA ρ K tNil δ 0 (· = []) := .mk fun G0 H0 G H σ m Q w hm q => q [] [] G H m rfl w (Gd.refl w.gd.sub) (Nat.le_refl _) .nil
theorem ea_cons {PA : List D → Prop} {PR : List D → Prop} (ha : EJ ρ K ta δ k1 P1) (hr : ∀ a, P1 a → EA ρ K tr δ k2 PR) (h : ∀ a r, P1 a → PR r → PA (a :: r)) : EA ρ K (tCons ta tr) δ (k1 + k2) PA := .mk fun G0 H0 G H σ m Q w hm q =>
  (ha).run G0 H0 G H σ m _ w (by omega) fun x vx G1 H1 m1 px w1 g1 l1 ax => (hr x px).run G0 H0 G1 H1 σ m1 _ w1 (by omega) fun y vy G2 H2 m2 py w2 g2 l2 ay =>
    q (x :: y) (vx :: vy) G2 H2 m2 (h x y px py) w2 (Gd.trans w1.pot g1 g2) (by omega) (.cons (ax.mono g2.gg) ay)
theorem eda_nil : EDA ρ K tNil δ [] := ea_nil
theorem eda_cons {ds : List D} (ha : ED ρ K ta δ a) (hr : EDA ρ K tr δ ds) : EDA ρ K (tCons ta tr) δ (a :: ds) := ea_cons ha (fun _ _ => hr) fun x y e f => by subst e f; rfl
/-! displays -/
theorem ej_tup {PA : List D → Prop} (h : EA ρ K t δ k PA) (hl : ∀ ds, PA ds → ds.length ≤ 1000000) (hp : ∀ ds, PA ds → P (.tup ds)) : EJ ρ K (tTup t) δ k P := .mk fun G0 H0 G H σ m Q w hm q =>
  (h).run G0 H0 G H σ m _ w hm fun ds vs G1 H1 m1 px w1 g1 l1 ax => ⟨by rw [ax.len]; exact Nat.le_trans (hl _ px) (by decide), fun p hp' => by
    have g3 := Gd.alloc (o := HO.tup vs) w1.gd.sub hp'
    exact q (.tup ds) (.ref p) _ _ m1 (hp _ px) (w1.step g3.weak (w1.pot.keep g3)) (Gd.trans w1.pot g1 g3.weak) l1 (.tup (.inl (.inl upd_same)) (ax.mono g3.gg))⟩
theorem ej_lst {PA : List D → Prop} (h : EA ρ K t δ k PA) (hl : ∀ ds, PA ds → ds.length ≤ 1000000) (hp : ∀ ds, PA ds → P (.lst ds)) : EJ ρ K (tLst t) δ k P := .mk fun G0 H0 G H σ m Q w hm q =>
  (h).run G0 H0 G H σ m _ w hm fun ds vs G1 H1 m1 px w1 g1 l1 ax => ⟨by rw [ax.len]; exact Nat.le_trans (hl _ px) (by decide), fun p hp' => by
    have g3 := Gd.alloc (o := HO.lst vs) w1.gd.sub hp'
    exact q (.lst ds) (.ref p) _ _ m1 (hp _ px) (w1.step g3.weak (w1.pot.keep g3)) (Gd.trans w1.pot g1 g3.weak) l1 (.lst upd_same (ax.mono g3.gg))⟩
theorem ed_tup {ds : List D} (h : EDA ρ K t δ ds) (hl : ds.length ≤ 1000000) : ED ρ K (tTup t) δ (.tup ds) := ej_tup h (fun x e => by subst e; exact hl) fun x e => by subst e; rfl
theorem ed_lst {ds : List D} (h : EDA ρ K t δ ds) (hl : ds.length ≤ 1000000) : ED ρ K (tLst t) δ (.lst ds) := ej_lst h (fun x e => by subst e; exact hl) fun x e => by subst e; rfl
/-! calls of built-ins -/
theorem ej_cb {r : List V → Hp → VK → Prop} {PA : List D → Prop} (h : EA ρ K t δ k PA) (hr : ∀ ds, PA ds → ∃ c, P c ∧ CJ K r ds c) : EJ ρ K (tCB r t) δ k P := .mk fun G0 H0 G H σ m Q w hm q =>
  (h).run G0 H0 G H σ m _ w hm fun ds vs G1 H1 m1 px w1 g1 l1 ax => by
    obtain ⟨c, pc, rj⟩ := hr ds px
    refine rj.run vs G1 H1 Q ax w1.gd.sub fun v G3 H3 g3 av => ?_
    exact q c v G3 H3 m1 pc (w1.step g3.weak (w1.pot.keep g3)) (Gd.trans w1.pot g1 g3.weak) (by omega) av
theorem ed_cb {r : List V → Hp → VK → Prop} (h : EDA ρ K t δ as) (hr : CJ K r as c) : ED ρ K (tCB r t) δ c := ej_cb h fun x e => ⟨c, rfl, by subst e; exact hr⟩
/-! tests -/
theorem et_test {PB : Bool → Prop} (h : EJ ρ K te δ k (fun d => ∃ b, d = .bl b ∧ PB b)) : ET ρ K (tTest te) δ k PB := .mk fun G0 H0 G H σ m Q w hm q =>
  (h).run G0 H0 G H σ m _ w hm fun d v G1 H1 m1 px w1 g1 l1 ax => by
    obtain ⟨b, rfl, pb⟩ := px
    cases ax
    exact ⟨b, rfl, q b G1 H1 m1 pb w1 g1 l1⟩
theorem eb_test {x : Bool} (h : ED ρ K te δ (.bl x)) : EB ρ K (tTest te) δ x := et_test (h.mono (Nat.le_refl _) fun d e => ⟨x, e, rfl⟩)
theorem eb_B {x : Bool} (h : ED ρ K te δ (.bl x)) : EB ρ K (tB te) δ x := eb_test h
theorem et_and {PA PB PC : Bool → Prop} (h1 : ET ρ K tt δ k1 PA) (h2 : PA true → ET ρ K tu δ k2 PB) (hf : PA false → PC false) (ht : ∀ b, PA true → PB b → PC b) : ET ρ K (tAnd tt tu) δ (k1 + k2) PC := .mk fun G0 H0 G H σ m Q w hm q =>
  (h1).run G0 H0 G H σ m _ w (by omega) fun b G1 H1 m1 px w1 g1 l1 => by
    cases b with
    | false => exact iteF (q false G1 H1 m1 (hf px) w1 g1 (by omega))
    | true => exact iteT ((h2 px).run G0 H0 G1 H1 σ m1 Q w1 (by omega) fun b G2 H2 m2 pb w2 g2 l2 => q b G2 H2 m2 (ht b px pb) w2 (Gd.trans w1.pot g1 g2) (by omega))
theorem et_or {PA PB PC : Bool → Prop} (h1 : ET ρ K tt δ k1 PA) (h2 : PA false → ET ρ K tu δ k2 PB) (hf : PA true → PC true) (ht : ∀ b, PA false → PB b → PC b) : ET ρ K (tOr tt tu) δ (k1 + k2) PC := .mk fun G0 H0 G H σ m Q w hm q =>
  (h1).run G0 H0 G H σ m _ w (by omega) fun b G1 H1 m1 px w1 g1 l1 => by
    cases b with
    | true => exact iteT (q true G1 H1 m1 (hf px) w1 g1 (by omega))
    | false => exact iteF ((h2 px).run G0 H0 G1 H1 σ m1 Q w1 (by omega) fun b G2 H2 m2 pb w2 g2 l2 => q b G2 H2 m2 (ht b px pb) w2 (Gd.trans w1.pot g1 g2) (by omega))
theorem et_not {PA PB : Bool → Prop} (h : ET ρ K tt δ k PA) (hp : ∀ b, PA b → PB (!b)) : ET ρ K (tNot tt) δ k PB := .mk fun G0 H0 G H σ m Q w hm q =>
  (h).run G0 H0 G H σ m _ w hm fun b G1 H1 m1 px w1 g1 l1 => q (!b) G1 H1 m1 (hp b px) w1 g1 l1
theorem eb_and {x y : Bool} (h1 : EB ρ K tt δ x) (h2 : x = true → EB ρ K tu δ y) : EB ρ K (tAnd tt tu) δ (x && y) :=
  et_and h1 (fun e => h2 e.symm) (fun e => by subst e; rfl) fun b e e2 => by subst e e2; rfl
theorem eb_or {x y : Bool} (h1 : EB ρ K tt δ x) (h2 : x = false → EB ρ K tu δ y) : EB ρ K (tOr tt tu) δ (x || y) :=
  et_or h1 (fun e => h2 e.symm) (fun e => by subst e; rfl) fun b e e2 => by subst e e2; rfl
theorem eb_not {x : Bool} (h : EB ρ K tt δ x) : EB ρ K (tNot tt) δ (!x) := et_not h fun b e => by subst e; rfl
theorem ej_if {PT : Bool → Prop} (h : ET ρ K tt δ k1 PT) (ha : PT true → EJ ρ K ta δ k2 P) (hb : PT false → EJ ρ K tb δ k3 P) : EJ ρ K (tIf tt ta tb) δ (k1 + (k2 + k3)) P := .mk fun G0 H0 G H σ m Q w hm q =>
  (h).run G0 H0 G H σ m _ w (by omega) fun b G1 H1 m1 px w1 g1 l1 => by
    cases b with
    | true => exact iteT ((ha px).run G0 H0 G1 H1 σ m1 Q w1 (by omega) fun d v G2 H2 m2 pb w2 g2 l2 => q d v G2 H2 m2 pb w2 (Gd.trans w1.pot g1 g2) (by omega))
    | false => exact iteF ((hb px).run G0 H0 G1 H1 σ m1 Q w1 (by omega) fun d v G2 H2 m2 pb w2 g2 l2 => q d v G2 H2 m2 pb w2 (Gd.trans w1.pot g1 g2) (by omega))
theorem ed_if {x : Bool} (h : EB ρ K tt δ x) (ha : x = true → ED ρ K ta δ a) (hb : x = false → ED ρ K tb δ b) : ED ρ K (tIf tt ta tb) δ (bif x then a else b) :=
  ej_if h (fun e => (ha e.symm).mono (Nat.le_refl _) fun d e2 => by subst e e2; rfl) (fun e => (hb e.symm).mono (Nat.le_refl _) fun d e2 => by subst e e2; rfl)
theorem ej_andV {PB PC : Bool → Prop} (h1 : EJ ρ K ta δ k1 (fun d => ∃ b, d = .bl b ∧ PB b)) (h2 : PB true → EJ ρ K tb δ k2 P) (hf : PB false → P (.bl false)) : EJ ρ K (tAndV ta tb) δ (k1 + k2) P := .mk fun G0 H0 G H σ m Q w hm q =>
  (h1).run G0 H0 G H σ m _ w (by omega) fun d v G1 H1 m1 px w1 g1 l1 ax => by
    obtain ⟨b, rfl, pb⟩ := px
    cases ax
    refine ⟨b, rfl, ?_⟩
    cases b with
    | false => exact iteF (q _ _ G1 H1 m1 (hf pb) w1 g1 (by omega) (.bl false))
    | true => exact iteT ((h2 pb).run G0 H0 G1 H1 σ m1 Q w1 (by omega) fun d v G2 H2 m2 pb w2 g2 l2 => q d v G2 H2 m2 pb w2 (Gd.trans w1.pot g1 g2) (by omega))
theorem ed_andV {x : Bool} {y : Bool} (h1 : ED ρ K ta δ (.bl x)) (h2 : x = true → ED ρ K tb δ (.bl y)) : ED ρ K (tAndV ta tb) δ (.bl (x && y)) :=
  ej_andV (PB := (· = x)) (PC := fun _ => True) (h1.mono (Nat.le_refl _) fun d e => ⟨x, e, rfl⟩) (fun e => (h2 e.symm).mono (Nat.le_refl _) fun d e2 => by subst e e2; rfl) fun e => by subst e; rfl
theorem ej_orV {PB PC : Bool → Prop} (h1 : EJ ρ K ta δ k1 (fun d => ∃ b, d = .bl b ∧ PB b)) (h2 : PB false → EJ ρ K tb δ k2 P) (hf : PB true → P (.bl true)) : EJ ρ K (tOrV ta tb) δ (k1 + k2) P := .mk fun G0 H0 G H σ m Q w hm q =>
  (h1).run G0 H0 G H σ m _ w (by omega) fun d v G1 H1 m1 px w1 g1 l1 ax => by
    obtain ⟨b, rfl, pb⟩ := px
    cases ax
    refine ⟨b, rfl, ?_⟩
    cases b with
    | true => exact iteT (q _ _ G1 H1 m1 (hf pb) w1 g1 (by omega) (.bl true))
    | false => exact iteF ((h2 pb).run G0 H0 G1 H1 σ m1 Q w1 (by omega) fun d v G2 H2 m2 pb w2 g2 l2 => q d v G2 H2 m2 pb w2 (Gd.trans w1.pot g1 g2) (by omega))
theorem ed_orV {x : Bool} {y : Bool} (h1 : ED ρ K ta δ (.bl x)) (h2 : x = false → ED ρ K tb δ (.bl y)) : ED ρ K (tOrV ta tb) δ (.bl (x || y)) :=
  ej_orV (PB := (· = x)) (PC := fun _ => True) (h1.mono (Nat.le_refl _) fun d e => ⟨x, e, rfl⟩) (fun e => (h2 e.symm).mono (Nat.le_refl _) fun d e2 => by subst e e2; rfl) fun e => by subst e; rfl
theorem ed_notV {x : Bool} (h : ED ρ K ta δ (.bl x)) : ED ρ K (tNotV ta) δ (.bl (!x)) := .mk fun G0 H0 G H σ m Q w hm q =>
  (h).run G0 H0 G H σ m _ w hm fun d v G1 H1 m1 px w1 g1 l1 ax => by
    subst px
    cases ax
    exact ⟨x, rfl, q _ _ G1 H1 m1 rfl w1 g1 l1 (.bl _)⟩
end
end DN

/-! ground 2: statements, loops, comprehensions, promises -/
namespace DN
open PySem PySem.Spec PyProof.Rows L2
variable [Tb]

inductive Out where
  | nx (δ : Dl) | rt (d : D) | bk (δ : Dl) | ct (δ : Dl) | ex (C : Addr) (d : D)

def EndsOk (ρ : Rh) (K : PySem.W.Frag) (G0 H0 : Hp) (D : Ends) (E : XK) (m : Nat) : Out → Prop
  | .nx δ' => ∀ G' H' σ' m', Wf ρ K G0 H0 G' H' σ' δ' m' → m' ≤ m → D.nx σ' H'
  | .bk δ' => ∀ G' H' σ' m', Wf ρ K G0 H0 G' H' σ' δ' m' → m' ≤ m → D.bk σ' H'
  | .ct δ' => ∀ G' H' σ' m', Wf ρ K G0 H0 G' H' σ' δ' m' → m' ≤ m → D.ct σ' H'
  | .rt d => ∀ v G' H' m', Gd ρ G0 H0 G' H' → PotS ρ m' H' → m' ≤ m → At K G' v d → D.rt v H'
  | .ex C d => ∀ p v G' H' m', Gd ρ G0 H0 G' H' → PotS ρ m' H' → m' ≤ m → G' p = some (.xd [("value", v)]) → At K G' v d → E (.ref C) (some p) H'
theorem EndsOk.le {ρ : Rh} {K : PySem.W.Frag} {G0 H0 : Hp} {D : Ends} {E : XK} {m n : Nat} (h : m ≤ n) : ∀ {o : Out}, EndsOk ρ K G0 H0 D E n o → EndsOk ρ K G0 H0 D E m o
  | .nx _, q => fun G' H' σ' m' w l => q G' H' σ' m' w (by omega)
  | .bk _, q => fun G' H' σ' m' w l => q G' H' σ' m' w (by omega)
  | .ct _, q => fun G' H' σ' m' w l => q G' H' σ' m' w (by omega)
  | .rt _, q => fun v G' H' m' g p l => q v G' H' m' g p (by omega)
  | .ex _ _, q => fun p v G' H' m' g pp l => q p v G' H' m' g pp (by omega)

section
variable (ρ : Rh) (K : PySem.W.Frag) (E : XK)
structure SJ (ts : TS) (δ : Dl) (k : Nat) (P : Out → Prop)  : Prop where
  run : ∀ (G0 H0 G H : Hp) (σ : L2.St) (m : Nat) (D : Ends), Wf ρ K G0 H0 G H σ δ m → m + k ≤ Mx →
  (∀ o, P o → EndsOk ρ K G0 H0 D E (m + k) o) → ts D σ H
/-- a target takes a datum -/
structure GJ (g : TG) (L : List Nat) (d : D) (δ δ' : Dl)  : Prop where
  run : ∀ (G0 H0 G H : Hp) (σ : L2.St) (v : V) (m : Nat) (Q : L2.St → Hp → Prop), Wf ρ K G0 H0 G H σ δ m → At K G v d →
  (∀ σ', Wf ρ K G0 H0 G H σ' δ' m → (∀ vs : List Nat, (∀ i ∈ L, i ∈ vs) → wipe σ' vs = wipe σ vs) → Q σ' H) → g v σ H Q
structure GsJ (g : TGs) (L : List Nat) (ds : List D) (δ δ' : Dl)  : Prop where
  run : ∀ (G0 H0 G H : Hp) (σ : L2.St) (vs : List V) (m : Nat) (Q : L2.St → Hp → Prop), Wf ρ K G0 H0 G H σ δ m → AtL K G vs ds →
  (∀ σ', Wf ρ K G0 H0 G H σ' δ' m → (∀ vs : List Nat, (∀ i ∈ L, i ∈ vs) → wipe σ' vs = wipe σ vs) → Q σ' H) → g vs σ H Q
/-- what is walked gives these data, one after the other -/
structure IJ (wi : TI) (δ : Dl) (k : Nat) (P : List D → Prop)  : Prop where
  run : ∀ (G0 H0 G H : Hp) (σ : L2.St) (m : Nat) (R : It → Hp → Prop), Wf ρ K G0 H0 G H σ δ m → m + k ≤ Mx →
  (∀ (ds : List D) (J : It) (G' H' : Hp) (Gp : Hp → Prop) (Y : Nat → Hp → V → Hp → Prop) (m' : Nat), P ds → Wf ρ K G0 H0 G' H' σ δ m' → Gd ρ G H G' H' → m' ≤ m + k → L2.Walk J ds.length Gp Y → (∀ H2, Same G' H2 → Gp H2) →
    (∀ i x H1 H2 Gx, i < ds.length → Same G' Gx → Same Gx H1 → Y i H1 x H2 → ∃ G2 d, ds[i]? = some d ∧ Gd .none Gx H1 G2 H2 ∧ At K G2 x d) → R J H') → wi σ H R
/-- te gives a new list, of the def's own -/
structure EN (te : TE) (δ : Dl) (k : Nat) (P : D → Prop)  : Prop where
  run : ∀ (G0 H0 G H : Hp) (σ : L2.St) (m : Nat) (Q : VK), Wf ρ K G0 H0 G H σ δ m → m + k ≤ Mx →
  (∀ d p o G' H' m', P d → Wf ρ K G0 H0 G' H' σ δ m' → Gd ρ G H G' H' → m' ≤ m + k → H p = none → H' p = some o → OAt K G' o d → G' p = none → Q (.ref p) H') → te σ H Q
end

section
variable {ρ : Rh} {K : PySem.W.Frag} {E : XK} {δ δ' : Dl} {te ta tb tc : TE} {t u ts : TS} {tt tu : TT} {k k1 k2 k3 : Nat} {P P1 P2 : D → Prop} {PO PO' : Out → Prop} {a b c d : D} {i : Nat}

/-! ### slots set -/
theorem Wf.set {G0 H0 G H : Hp} {σ : L2.St} {m : Nat} {v : V} {dd : D} (w : Wf ρ K G0 H0 G H σ δ m) (h : At K G v dd) : Wf ρ K G0 H0 G H (σ.set i (some v)) (δ.set i (some (.val dd))) m where
  len := by rw [List.length_set, List.length_set]; exact w.len
  gd := w.gd
  pot := w.pot
  pot0 := w.pot0
  sl := fun j s e => by
    by_cases hj : i = j
    · subst hj
      by_cases hl : i < δ.length
      · rw [List.getElem?_set_self hl] at e
        cases e
        exact ⟨v, List.getElem?_set_self (by rw [w.len]; exact hl), h⟩
      · rw [List.getElem?_eq_none (by rw [List.length_set]; omega)] at e
        cases e
    · rw [List.getElem?_set_ne hj] at e
      obtain ⟨x, h1, h2⟩ := w.sl j s e
      exact ⟨x, by rw [List.getElem?_set_ne hj]; exact h1, h2⟩
  ap := fun j l d e n h1 h2 => by
    have nj : ∀ {q : Nat} {x : D}, (δ.set i (some (.val dd)))[q]? = some (some (.own x)) → i ≠ q ∧ δ[q]? = some (some (.own x)) := by
      intro q x e
      by_cases hj : i = q
      · subst hj
        by_cases hl : i < δ.length
        · rw [List.getElem?_set_self hl] at e
          cases e
        · rw [List.getElem?_eq_none (by rw [List.length_set]; omega)] at e
          cases e
      · rw [List.getElem?_set_ne hj] at e
        exact ⟨hj, e⟩
    obtain ⟨a1, a2⟩ := nj h1
    obtain ⟨b1, b2⟩ := nj h2
    rw [List.getElem?_set_ne a1, List.getElem?_set_ne b1]
    exact w.ap j l d e n a2 b2

theorem Wf.fresh {G0 H0 G H : Hp} {σ : L2.St} {m : Nat} {p : Addr} (w : Wf ρ K G0 H0 G H σ δ m) (h : H p = none) : H0 p = none := by
  cases z : H0 p with
  | none => rfl
  | some o =>
    by_cases y : Mv ρ p
    · exact absurd h (w.pot.ne y)
    · rw [w.gd.keep p o y z] at h; cases h
theorem Wf.notOwn {G0 H0 G H : Hp} {σ : L2.St} {m : Nat} {p : Addr} (w : Wf ρ K G0 H0 G H σ δ m) (h : H p = none) {j : Nat} {d : D} (e : δ[j]? = some (some (.own d))) : σ[j]? ≠ some (some (.ref p)) := by
  obtain ⟨v, h1, q, o, rfl, hq, _⟩ := w.sl j _ e
  intro z
  rw [h1] at z
  cases z
  rw [h] at hq; cases hq
/-- a slot takes an object of the def's own -/
theorem Wf.setOwn {G0 H0 G H : Hp} {σ : L2.St} {m : Nat} {p : Addr} {o : HO} {dd : D} (w : Wf ρ K G0 H0 G H σ δ m) (h0 : H0 p = none) (hp : H p = some o) (ha : OAt K G o dd) (hg : G p = none)
    (hn : ∀ j e, i ≠ j → δ[j]? = some (some (.own e)) → σ[j]? ≠ some (some (.ref p))) : Wf ρ K G0 H0 G H (σ.set i (some (.ref p))) (δ.set i (some (.own dd))) m where
  len := by rw [List.length_set, List.length_set]; exact w.len
  gd := w.gd
  pot := w.pot
  pot0 := w.pot0
  sl := fun j s e => by
    by_cases hj : i = j
    · subst hj
      by_cases hl : i < δ.length
      · rw [List.getElem?_set_self hl] at e
        cases e
        exact ⟨.ref p, List.getElem?_set_self (by rw [w.len]; exact hl), p, o, rfl, hp, ha, hg, h0⟩
      · rw [List.getElem?_eq_none (by rw [List.length_set]; omega)] at e
        cases e
    · rw [List.getElem?_set_ne hj] at e
      obtain ⟨x, h1, h2⟩ := w.sl j s e
      exact ⟨x, by rw [List.getElem?_set_ne hj]; exact h1, h2⟩
  ap := fun j l d e n h1 h2 => by
    have lt : ∀ {q : Nat} {x : D}, (δ.set i (some (.own dd)))[q]? = some (some (.own x)) → (i = q ∧ i < σ.length) ∨ (i ≠ q ∧ δ[q]? = some (some (.own x))) := by
      intro q x e
      by_cases hj : i = q
      · subst hj
        by_cases hl : i < δ.length
        · exact .inl ⟨rfl, by rw [w.len]; exact hl⟩
        · rw [List.getElem?_eq_none (by rw [List.length_set]; omega)] at e
          cases e
      · rw [List.getElem?_set_ne hj] at e
        exact .inr ⟨hj, e⟩
    rcases lt h1 with ⟨e1, l1⟩ | ⟨n1, e1⟩
    · rcases lt h2 with ⟨e2, _⟩ | ⟨n2, e2⟩
      · exact absurd (e1.symm.trans e2) n
      · subst e1
        rw [List.getElem?_set_self l1, List.getElem?_set_ne n2]
        exact fun z => hn l e n2 e2 z.symm
    · rcases lt h2 with ⟨e2, l2⟩ | ⟨n2, e2⟩
      · subst e2
        rw [List.getElem?_set_self l2, List.getElem?_set_ne n1]
        exact hn j d n1 e1
      · rw [List.getElem?_set_ne n1, List.getElem?_set_ne n2]
        exact w.ap j l d e n e1 e2
/-- the object in a slot of the def's own changes -/
theorem Wf.chg {G0 H0 G H : Hp} {σ : L2.St} {m : Nat} {p : Addr} {o : HO} {dd d0 : D} (w : Wf ρ K G0 H0 G H σ δ m) (hi : δ[i]? = some (some (.own d0))) (hs : σ[i]? = some (some (.ref p))) (ha : OAt K G o dd) : Wf ρ K G0 H0 G (upd H p o) σ (δ.set i (some (.own dd))) m := by
  obtain ⟨v, e1, q, o', rfl, hq, hoa, hgq, h0⟩ := w.sl i _ hi
  rw [hs] at e1
  cases e1
  have nr : Fx ρ p := fun z => (w.pot0 p z).1 h0
  have gk : Same G (upd H p o) := fun b u e => by
    rw [upd_ne (ne_of_none e hgq)]
    exact w.gd.sub b u e
  refine ⟨by rw [List.length_set]; exact w.len, ⟨fun b u n e => ?_, w.gd.gg, gk, w.gd.new, fun h => (w.gd.ot h).upd (nt_dat ha.dat)⟩, ?_, w.pot0, fun j s e => ?_, fun j l d e n h1 h2 => ?_⟩
  · rw [upd_ne (ne_of_none e h0)]
    exact w.gd.keep b u n e
  · exact w.pot.set nr hq hoa.dat (nt_dat ha.dat)
  · by_cases hj : i = j
    · subst hj
      have hl : i < δ.length := by
        cases Nat.lt_or_ge i δ.length with
        | inl h => exact h
        | inr h => rw [List.getElem?_eq_none h] at hi; cases hi
      rw [List.getElem?_set_self hl] at e
      cases e
      exact ⟨.ref p, hs, p, o, rfl, upd_same, ha, hgq, h0⟩
    · rw [List.getElem?_set_ne hj] at e
      obtain ⟨x, h1, h2⟩ := w.sl j s e
      refine ⟨x, h1, ?_⟩
      cases s with
      | val d => exact h2
      | own d =>
        obtain ⟨r, o2, rfl, hr, h3⟩ := h2
        have np : r ≠ p := fun z => by
          subst z
          exact w.ap i j d0 d hj hi e (hs.trans h1.symm)
        exact ⟨r, o2, rfl, by rw [upd_ne np]; exact hr, h3⟩
      | lent d =>
        obtain ⟨r, o2, rfl, hr, ha3, hg3, hz3, nr3⟩ := h2
        have np : r ≠ p := fun z => hz3 (by rw [z]; exact h0)
        exact ⟨r, o2, rfl, by rw [upd_ne np]; exact hr, ha3, hg3, hz3, nr3⟩
  · have lt : ∀ {q : Nat} {x : D}, (δ.set i (some (.own dd)))[q]? = some (some (.own x)) → ∃ y, δ[q]? = some (some (.own y)) := by
      intro q x e
      by_cases hj : i = q
      · subst hj; exact ⟨d0, hi⟩
      · rw [List.getElem?_set_ne hj] at e
        exact ⟨x, e⟩
    obtain ⟨y, e1⟩ := lt h1
    obtain ⟨z, e2⟩ := lt h2
    exact w.ap j l y z n e1 e2
/-- the object in a slot of the def's own is let stand as it is from now on -/
theorem Wf.froze {G0 H0 G H : Hp} {σ : L2.St} {m : Nat} {d0 : D} (w : Wf ρ K G0 H0 G H σ δ m) (hi : δ[i]? = some (some (.own d0))) :
    ∃ p o, σ[i]? = some (some (.ref p)) ∧ H p = some o ∧ G p = none ∧ OAt K G o d0 ∧ Wf ρ K G0 H0 (upd G p o) H σ (δ.set i (some (.val d0))) m := by
  obtain ⟨v, hs, p, o, rfl, hq, hoa, hgq, h0⟩ := w.sl i _ hi
  have gg : Same G (upd G p o) := same_new hgq
  refine ⟨p, o, hs, hq, hgq, hoa, by rw [List.length_set]; exact w.len, ⟨w.gd.keep, w.gd.gg.trans gg, fun b u e => ?_, fun b e => ?_, w.gd.ot⟩, w.pot, w.pot0, fun j s e => ?_, fun j l d e n h1 h2 => ?_⟩
  · by_cases z : b = p
    · subst z; rw [upd_same] at e; rw [hq]; exact e
    · rw [upd_ne z] at e; exact w.gd.sub b u e
  · by_cases z : b = p
    · subst z; exact .inr h0
    · rw [upd_ne z] at e; exact w.gd.new b e
  · by_cases hj : i = j
    · subst hj
      have hl : i < δ.length := by
        cases Nat.lt_or_ge i δ.length with
        | inl h => exact h
        | inr h => rw [List.getElem?_eq_none h] at hi; cases hi
      rw [List.getElem?_set_self hl] at e
      cases e
      exact ⟨.ref p, hs, OAt.at (hoa.mono gg) upd_same⟩
    · rw [List.getElem?_set_ne hj] at e
      obtain ⟨x, h1, h2⟩ := w.sl j s e
      refine ⟨x, h1, ?_⟩
      cases s with
      | val d => exact At.mono gg h2
      | own d =>
        obtain ⟨r, o2, rfl, hr, ha, hg, hz⟩ := h2
        have np : r ≠ p := fun z => by
          subst z
          exact w.ap i j d0 d hj hi e (hs.trans h1.symm)
        exact ⟨r, o2, rfl, hr, ha.mono gg, by rw [upd_ne np]; exact hg, hz⟩
      | lent d =>
        obtain ⟨r, o2, rfl, hr, ha, hg, hz, nr⟩ := h2
        have np : r ≠ p := fun z => hz (by rw [z]; exact h0)
        exact ⟨r, o2, rfl, hr, ha.mono gg, by rw [upd_ne np]; exact hg, hz, nr⟩
  · have lt : ∀ {q : Nat} {x : D}, (δ.set i (some (.val d0)))[q]? = some (some (.own x)) → δ[q]? = some (some (.own x)) := by
      intro q x e
      by_cases hj : i = q
      · subst hj
        have hl : i < δ.length := by
          cases Nat.lt_or_ge i δ.length with
          | inl h => exact h
          | inr h => rw [List.getElem?_eq_none h] at hi; cases hi
        rw [List.getElem?_set_self hl] at e
        cases e
      · rw [List.getElem?_set_ne hj] at e
        exact e
    exact w.ap j l d e n (lt h1) (lt h2)

/-! ### statements -/
theorem SJ.mono {k' : Nat} (h : SJ ρ K E ts δ k PO) (hk : k ≤ k') (hp : ∀ o, PO o → PO' o) : SJ ρ K E ts δ k' PO' := .mk fun G0 H0 G H σ m D w hm q =>
  (h).run G0 H0 G H σ m D w (by omega) fun o p => (q o (hp o p)).le (by omega)
theorem sj_next : SJ ρ K E tNext δ 0 (· = .nx δ) := .mk fun G0 H0 G H σ m D w hm q => q _ rfl G H σ m w (Nat.le_refl _)
theorem sj_nextP (h : PO (.nx δ)) : SJ ρ K E tNext δ 0 PO := sj_next.mono (Nat.le_refl _) fun o e => by subst e; exact h
theorem sj_seq (h : SJ ρ K E t δ k1 PO) (hn : ∀ δ', PO (.nx δ') → SJ ρ K E u δ' k2 PO') (ho : ∀ o, PO o → (∀ δ', o ≠ .nx δ') → PO' o) : SJ ρ K E (tSeq t u) δ (k1 + k2) PO' := .mk fun G0 H0 G H σ m D w hm q =>
  (h).run G0 H0 G H σ m _ w (by omega) fun o p => by
    cases o with
    | nx δ' => exact fun G' H' σ' m' w' l => (hn δ' p).run G0 H0 G' H' σ' m' D w' (by omega) fun o p => (q o p).le (by omega)
    | rt d => exact EndsOk.le (o := .rt d) (by omega) (q _ (ho _ p (by simp)))
    | bk d => exact EndsOk.le (o := .bk d) (by omega) (q _ (ho _ p (by simp)))
    | ct d => exact EndsOk.le (o := .ct d) (by omega) (q _ (ho _ p (by simp)))
    | ex C d => exact EndsOk.le (o := .ex C d) (by omega) (q _ (ho _ p (by simp)))
/-- x = e; the rest -/
theorem sj_set (h : EJ ρ K te δ k1 P) (hn : ∀ d, P d → SJ ρ K E u (δ.set i (some (.val d))) k2 PO) : SJ ρ K E (tSeq (tAsg te (gName i)) u) δ (k1 + k2) PO := .mk fun G0 H0 G H σ m D w hm q =>
  (h).run G0 H0 G H σ m _ w (by omega) fun d v G' H' m' p w' g l x => (hn d p).run G0 H0 G' H' _ m' D (w'.set x) (by omega) fun o po => (q o po).le (by omega)
/-- x = e, where x is to grow; the rest -/
theorem sj_new (h : EN ρ K te δ k1 P) (hn : ∀ d, P d → SJ ρ K E u (δ.set i (some (.own d))) k2 PO) : SJ ρ K E (tSeq (tAsg te (gName i)) u) δ (k1 + k2) PO := .mk fun G0 H0 G H σ m D w hm q =>
  (h).run G0 H0 G H σ m _ w (by omega) fun d r o G' H' m' p w' g l hp ho ha hg => (hn d p).run G0 H0 G' H' _ m' D (w'.setOwn (w.fresh hp) ho ha hg fun j e _ hj => w.notOwn hp hj) (by omega) fun o po => (q o po).le (by omega)
theorem sj_frz (i : Nat) {d0 : D} (hi : δ[i]? = some (some (.own d0))) (h : SJ ρ K E ts (δ.set i (some (.val d0))) k PO) : SJ ρ K E ts δ k PO := .mk fun G0 H0 G H σ m D w hm q => by
  obtain ⟨p, o, _, _, _, _, w'⟩ := w.froze hi
  exact (h).run G0 H0 _ H σ m D w' hm q
theorem ej_frz (i : Nat) {d0 : D} (hi : δ[i]? = some (some (.own d0))) {Q : VK} {G0 H0 G H : Hp} {σ : L2.St} {m : Nat} (w : Wf ρ K G0 H0 G H σ δ m) (hm : m + k ≤ Mx) (h : EJ ρ K te (δ.set i (some (.val d0))) k P)
    (q : ∀ d v G' H' m', P d → Wf ρ K G0 H0 G' H' σ (δ.set i (some (.val d0))) m' → m' ≤ m + k → At K G' v d → Q v H') : te σ H Q := by
  obtain ⟨p, o, _, _, _, _, w'⟩ := w.froze hi
  exact (h).run G0 H0 _ H σ m Q w' hm fun d v G' H' m' p w' _ l x => q d v G' H' m' p w' l x
theorem sj_ret (h : EJ ρ K te δ k P) : SJ ρ K E (tRet te) δ k (fun o => ∃ d, P d ∧ o = .rt d) := .mk fun G0 H0 G H σ m D w hm q =>
  (h).run G0 H0 G H σ m _ w hm fun d v G' H' m' p w' g l x => q (.rt d) ⟨d, p, rfl⟩ v G' H' m' w'.gd w'.pot l x
theorem sj_retP (h : EJ ρ K te δ k P) (hp : ∀ d, P d → PO (.rt d)) : SJ ρ K E (tRet te) δ k PO := (sj_ret h).mono (Nat.le_refl _) fun o e => by
  obtain ⟨d, p, rfl⟩ := e
  exact hp d p
theorem sj_retN (h : PO (.rt .non)) : SJ ρ K E tRetN δ 0 PO := .mk fun G0 H0 G H σ m D w hm q => q (.rt .non) h .non G H m w.gd w.pot (Nat.le_refl _) .non
theorem sj_if {PT : Bool → Prop} (h : ET ρ K tt δ k1 PT) (ht : PT true → SJ ρ K E t δ k2 PO) (hf : PT false → SJ ρ K E u δ k3 PO) : SJ ρ K E (tIfS tt t u) δ (k1 + (k2 + k3)) PO := .mk fun G0 H0 G H σ m D w hm q =>
  (h).run G0 H0 G H σ m _ w (by omega) fun b G1 H1 m1 px w1 g1 l1 => by
    cases b with
    | true => exact iteT ((ht px).run G0 H0 G1 H1 σ m1 D w1 (by omega) fun o po => (q o po).le (by omega))
    | false => exact iteF ((hf px).run G0 H0 G1 H1 σ m1 D w1 (by omega) fun o po => (q o po).le (by omega))
theorem sj_ifs {PT : Bool → Prop} {r : TS} (h : ET ρ K tt δ k1 PT) (ht : PT true → SJ ρ K E (tSeq t r) δ k2 PO) (hf : PT false → SJ ρ K E (tSeq u r) δ k3 PO) : SJ ρ K E (tSeq (tIfS tt t u) r) δ (k1 + (k2 + k3)) PO :=
  sj_if (t := tSeq t r) (u := tSeq u r) h ht hf
theorem sj_nexts {r : TS} (h : SJ ρ K E r δ k PO) : SJ ρ K E (tSeq tNext r) δ k PO := h
theorem sj_rets {r : TS} (h : SJ ρ K E (tRet te) δ k PO) : SJ ρ K E (tSeq (tRet te) r) δ k PO := h
theorem sj_assoc {r : TS} (h : SJ ρ K E (tSeq t (tSeq u r)) δ k PO) : SJ ρ K E (tSeq (tSeq t u) r) δ k PO := h
theorem sj_drop (h : EJ ρ K te δ k1 P) (hn : SJ ρ K E u δ k2 PO) : SJ ρ K E (tSeq (tDrop te) u) δ (k1 + k2) PO := .mk fun G0 H0 G H σ m D w hm q =>
  (h).run G0 H0 G H σ m _ w (by omega) fun d v G' H' m' p w' g l x => (hn).run G0 H0 G' H' _ m' D w' (by omega) fun o po => (q o po).le (by omega)
/-- a last statement is one with nothing behind it -/
theorem sj_last (h : SJ ρ K E (tSeq ts tNext) δ k PO) : SJ ρ K E ts δ k PO := h

/-! ### targets -/
theorem wipe_set_mem {σ : L2.St} {i : Nat} {x : Option V} : ∀ {vs : List Nat}, i ∈ vs → wipe (σ.set i x) vs = wipe σ vs
  | v :: vs, h => by
    unfold wipe
    by_cases hi : i ∈ vs
    · rw [wipe_set_mem hi]
    · have e : i = v := by
        rcases List.mem_cons.mp h with z | z
        · exact z
        · exact absurd z hi
      subst e
      have key : ∀ (ws : List Nat), i ∉ ws → ∀ τ : L2.St, wipe (τ.set i x) ws = (wipe τ ws).set i x := by
        intro ws
        induction ws with
        | nil => intro _ τ; rfl
        | cons y ys ih =>
          intro hn τ
          unfold wipe
          rw [ih (fun z => hn (List.mem_cons_of_mem _ z)) τ, List.set_comm]
          exact fun z => hn (by rw [z]; exact List.mem_cons_self ..)
      rw [key vs hi, List.set_set]
theorem gj_name : GJ ρ K (gName i) [i] d δ (δ.set i (some (.val d))) := .mk fun G0 H0 G H σ v m Q w h q =>
  q _ (w.set h) fun vs hv => wipe_set_mem (hv i (List.mem_singleton.mpr rfl))
theorem gsj_nil : GsJ ρ K gNil [] [] δ δ := .mk fun G0 H0 G H σ vs m Q w h q => by
  cases h
  exact ⟨rfl, q σ w fun _ _ => rfl⟩
theorem gsj_cons {g : TG} {gs : TGs} {L1 L2 : List Nat} {δ1 δ2 : Dl} {ds : List D} (h1 : GJ ρ K g L1 d δ δ1) (h2 : GsJ ρ K gs L2 ds δ1 δ2) : GsJ ρ K (gCons g gs) (L1 ++ L2) (d :: ds) δ δ2 := .mk fun G0 H0 G H σ vs m Q w h q => by
  cases h with
  | cons a r =>
    refine ⟨_, _, rfl, (h1).run G0 H0 G H σ _ m _ w a fun σ1 w1 e1 => (h2).run G0 H0 G H σ1 _ m _ w1 r fun σ2 w2 e2 => q σ2 w2 fun vs hv => ?_⟩
    rw [e2 vs fun i hi => hv i (List.mem_append_right _ hi), e1 vs fun i hi => hv i (List.mem_append_left _ hi)]
theorem gj_tup {gs : TGs} {L : List Nat} {ds : List D} {n : Nat} (h : GsJ ρ K gs L ds δ δ') (hn : ds.length = n) : GJ ρ K (gTup K n gs) L (.tup ds) δ δ' := .mk fun G0 H0 G H σ v m Q w a q => by
  cases a with
  | tup hs hl => exact ⟨_, _, rfl, Same.sqT w.gd.sub hs, by rw [hl.len]; exact hn, (h).run G0 H0 G H σ _ m Q w hl q⟩
theorem sj_asg {g : TG} {L : List Nat} {δ' : D → Dl} (h : EJ ρ K te δ k1 P) (hg : ∀ d, P d → GJ ρ K g L d δ (δ' d)) (hn : ∀ d, P d → SJ ρ K E u (δ' d) k2 PO) : SJ ρ K E (tSeq (tAsg te g) u) δ (k1 + k2) PO := .mk fun G0 H0 G H σ m D w hm q =>
  (h).run G0 H0 G H σ m _ w (by omega) fun d v G' H' m' p w' _ l x => (hg d p).run G0 H0 G' H' σ v m' _ w' x fun σ2 w2 _ => (hn d p).run G0 H0 G' H' _ m' D w2 (by omega) fun o po => (q o po).le (by omega)
end
end DN

/-! ground 3: loops, comprehensions, promises -/
namespace DN
open PySem PySem.Spec PyProof.Rows L2
variable [Tb]
section
variable {ρ : Rh} {K : PySem.W.Frag} {E : XK} {δ δ' : Dl} {te ta tb tc : TE} {t u ts : TS} {tt tu : TT} {tA : TA} {tb' : TS} {k k1 k2 k3 : Nat} {P P1 P2 : D → Prop} {PO PO' : Out → Prop} {a b c d : D} {i : Nat}

/-! ### new objects -/
theorem EN.ej (h : EN ρ K te δ k P) : EJ ρ K te δ k P := .mk fun G0 H0 G H σ m Q w hm q =>
  (h).run G0 H0 G H σ m Q w hm fun d p o G' H' m' pd w' g l hp ho ha hg => by
    have gg : Same G' (upd G' p o) := same_new hg
    have g2 : Gd ρ G H (upd G' p o) H' := ⟨g.keep, g.gg.trans gg, fun b u e => by
        by_cases z : b = p
        · subst z; rw [upd_same] at e; rw [ho]; exact e
        · rw [upd_ne z] at e; exact g.sub b u e, fun b e => by
        by_cases z : b = p
        · subst z; exact .inr hp
        · rw [upd_ne z] at e; exact g.new b e, g.ot⟩
    exact q d (.ref p) _ H' m' pd (w.step g2 w'.pot) g2 l (OAt.at (ha.mono gg) upd_same)
theorem EN.mono {k' : Nat} {P' : D → Prop} (h : EN ρ K te δ k P) (hk : k ≤ k') (hp : ∀ d, P d → P' d) : EN ρ K te δ k' P' := .mk fun G0 H0 G H σ m Q w hm q =>
  (h).run G0 H0 G H σ m Q w (by omega) fun d p o G' H' m' pd w' g l => q d p o G' H' m' (hp d pd) w' g (by omega)
/-- a new object p at the end of what went before -/
theorem en_fin {G0 H0 G H G1 H1 : Hp} {σ : L2.St} {m m1 : Nat} {Q : VK} {o : HO} {d : D} (w : Wf ρ K G0 H0 G H σ δ m) (w1 : Wf ρ K G0 H0 G1 H1 σ δ m1) (g1 : Gd ρ G H G1 H1) (ho : OAt K G1 o d)
    (q : ∀ p o G' H' m', Wf ρ K G0 H0 G' H' σ δ m' → Gd ρ G H G' H' → m' ≤ m1 → H p = none → H' p = some o → OAt K G' o d → G' p = none → Q (.ref p) H') : ∀ p, H1 p = none → Q (.ref p) (upd H1 p o) := fun p hp => by
  have g2 := Gd.alloc0 (o := o) w1.gd.sub hp (nt_dat ho.dat)
  have hp0 : H p = none := by
    cases z : H p with
    | none => rfl
    | some x =>
      by_cases y : Mv ρ p
      · exact absurd hp (w1.pot.ne y)
      · rw [g1.keep p x y z] at hp; cases hp
  exact q p o G1 _ m1 (w1.step g2.weak (w1.pot.keep g2)) (Gd.trans w1.pot g1 g2.weak) (Nat.le_refl _) hp0 upd_same ho (by
    cases z : G1 p with
    | none => rfl
    | some x => rw [w1.gd.sub p x z] at hp; cases hp)
theorem en_lst {PA : List D → Prop} (h : EA ρ K tA δ k PA) (hl : ∀ ds, PA ds → ds.length ≤ 1000000) (hp : ∀ ds, PA ds → P (.lst ds)) : EN ρ K (tLst tA) δ k P := .mk fun G0 H0 G H σ m Q w hm q =>
  (h).run G0 H0 G H σ m _ w hm fun ds vs G1 H1 m1 px w1 g1 l1 ax => ⟨by rw [ax.len]; exact Nat.le_trans (hl _ px) (by decide),
    en_fin w w1 g1 (.lst ax) fun p o G' H' m' w' g' l' => q (.lst ds) p o G' H' m' (hp _ px) w' g' (by omega)⟩
theorem en_nil : EN ρ K (tLst tNil) δ 0 (· = .lst []) := en_lst ea_nil (fun ds e => by subst e; exact Nat.zero_le _) fun ds e => by subst e; rfl
theorem en_dnil : EN ρ K tDNewK δ 0 (· = .dct []) := .mk fun G0 H0 G H σ m Q w hm q =>
  en_fin w w (Gd.refl w.gd.sub) (.dct .nil) fun p o G' H' m' w' g' l' => q (.dct []) p o G' H' m' rfl w' g' (by omega)

/-! ### loops -/
theorem ij_list {ds : List D} (h : ED ρ K te δ (.lst ds)) : IJ ρ K (iList K te) δ 0 (· = ds) := .mk fun G0 H0 G H σ m R w hm q =>
  (h).run G0 H0 G H σ m _ w hm fun d v G' H' m' pd w' g l x => by
    subst pd
    cases x with
    | @lst a xs _ ha hl =>
      have e := hl.len
      refine ⟨a, rfl, ⟨xs, .inl (.inl (w'.gd.sub _ _ ha))⟩, q ds (Itl K a) G' H' (fun H => SqL K H a xs) (YAt xs) m' rfl w' g l (by rw [← e]; exact walk_list) (fun H2 s => .inl (.inl (s _ _ ha))) ?_⟩
      intro i x H1 H2 Gx hi s1 s2 y
      obtain ⟨rfl, hx⟩ := y
      obtain ⟨d, hd, hat⟩ := AtL.getv (hl.mono s1) hx
      exact ⟨Gx, d, hd, Gd.refl s2, hat⟩
theorem ij_listP {PL : List D → Prop} (h : EJ ρ K te δ k (fun d => ∃ ds, d = .lst ds ∧ PL ds)) : IJ ρ K (iList K te) δ k PL := .mk fun G0 H0 G H σ m R w hm q =>
  (h).run G0 H0 G H σ m _ w hm fun d v G' H' m' pd w' g l x => by
    obtain ⟨ds, rfl, pl⟩ := pd
    cases x with
    | @lst a xs _ ha hl =>
      have e := hl.len
      refine ⟨a, rfl, ⟨xs, .inl (.inl (w'.gd.sub _ _ ha))⟩, q ds (Itl K a) G' H' (fun H => SqL K H a xs) (YAt xs) m' pl w' g l (by rw [← e]; exact walk_list) (fun H2 s => .inl (.inl (s _ _ ha))) ?_⟩
      intro i x H1 H2 Gx hi s1 s2 y
      obtain ⟨rfl, hx⟩ := y
      obtain ⟨d, hd, hat⟩ := AtL.getv (hl.mono s1) hx
      exact ⟨Gx, d, hd, Gd.refl s2, hat⟩
theorem ij_tup {ds : List D} (h : ED ρ K te δ (.tup ds)) : IJ ρ K (iTup K te) δ 0 (· = ds) := .mk fun G0 H0 G H σ m R w hm q =>
  (h).run G0 H0 G H σ m _ w hm fun d v G' H' m' pd w' g l x => by
    subst pd
    cases x with
    | @tup a xs _ ha hl =>
      have e := hl.len
      refine ⟨a, rfl, ⟨xs, Same.sqT w'.gd.sub ha⟩, q ds (Itt K a) G' H' (fun H => SqT K H a xs) (YAt xs) m' rfl w' g l (by rw [← e]; exact walk_tup) (fun H2 s => Same.sqT s ha) ?_⟩
      intro i x H1 H2 Gx hi s1 s2 y
      obtain ⟨rfl, hx⟩ := y
      obtain ⟨d, hd, hat⟩ := AtL.getv (hl.mono s1) hx
      exact ⟨Gx, d, hd, Gd.refl s2, hat⟩
/-- a new pair at each turn -/
theorem pair_at {Gx H1 H2 : Hp} {x y : V} {T : Addr} {a b : D} (s2 : Same Gx H1) (n : H1 T = none) (e : H2 = upd H1 T (.tup [x, y])) (ha : At K Gx x a) (hb : At K Gx y b) : ∃ G2, Gd .none Gx H1 G2 H2 ∧ At K G2 (.ref T) (.tup [a, b]) := by
  subst e
  have g := Gd.alloc (o := HO.tup [x, y]) s2 n
  exact ⟨_, g, .tup (.inl (.inl upd_same)) (.cons (ha.mono g.gg) (.cons (hb.mono g.gg) .nil))⟩
end
def enumD (ds : List D) : List D := List.zipWith (fun (i : Nat) (d : D) => D.tup [.int (i : Int), d]) (List.range ds.length) ds
section
variable {ρ : Rh} {K : PySem.W.Frag} {E : XK} {δ δ' : Dl} {te ta tb tc : TE} {t u ts : TS} {tt tu : TT} {tA : TA} {tb' : TS} {k k1 k2 k3 : Nat} {P P1 P2 : D → Prop} {PO PO' : Out → Prop} {a b c d : D} {i : Nat}
theorem ij_enum {ds : List D} (h : EDA ρ K tA δ [.lst ds]) : IJ ρ K (iEnum K tA) δ 0 (· = enumD ds) := .mk fun G0 H0 G H σ m R w hm q =>
  (h).run G0 H0 G H σ m _ w hm fun es vs G' H' m' pd w' g l x => by
    subst pd
    cases x with
    | cons x r =>
      cases r
      cases x with
      | @lst a xs _ ha hl =>
        have e := hl.len
        refine ⟨a, xs, rfl, .inl (.inl (w'.gd.sub _ _ ha)), q _ (Ite K a) G' H' (fun H => SqL K H a xs) _ m' rfl w' g l (by simp only [enumD, List.length_zipWith, List.length_range, Nat.min_self]; rw [← e]; exact walk_enum) (fun H2 s => .inl (.inl (s _ _ ha))) ?_⟩
        intro i x H1 H2 Gx hi s1 s2 y
        obtain ⟨T, x, y, rfl, hT, rfl, e1, e2⟩ := y
        cases e1
        obtain ⟨d, hd, hat⟩ := AtL.getv (hl.mono s1) e2
        obtain ⟨G2, g2, h2⟩ := pair_at s2 hT rfl (.int (i : Nat)) hat
        refine ⟨G2, _, ?_, g2, h2⟩
        have hi2 : i < ds.length := by
          have := (List.getElem?_eq_some_iff.mp hd).1
          exact this
        simp [enumD, hi2, hd, List.getElem?_range, List.getElem?_zipWith]
        exact (List.getElem?_eq_some_iff.mp hd).2
theorem ij_zip {ds es : List D} (h : EDA ρ K tA δ [.lst ds, .lst es]) : IJ ρ K (iZip K tA) δ 0 (· = (ds.zip es).map fun p => D.tup [p.1, p.2]) := .mk fun G0 H0 G H σ m R w hm q =>
  (h).run G0 H0 G H σ m _ w hm fun fs vs G' H' m' pd w' g l x => by
    subst pd
    cases x with
    | cons x r =>
      cases r with
      | cons y r =>
        cases r
        cases x with
        | @lst a xs _ ha hl =>
          cases y with
          | @lst b ys _ hb hl2 =>
            have e := hl.len
            have e2 := hl2.len
            refine ⟨a, b, xs, ys, rfl, .inl (.inl (w'.gd.sub _ _ ha)), .inl (.inl (w'.gd.sub _ _ hb)), q _ (Itz K a b) G' H' _ _ m' rfl w' g l (walk_zip (by simp only [List.length_map, List.length_zip]; rw [← e, ← e2])) (fun H2 s => ⟨.inl (.inl (s _ _ ha)), .inl (.inl (s _ _ hb))⟩) ?_⟩
            intro i x H1 H2 Gx hi s1 s2 y
            obtain ⟨T, x, y, rfl, hT, rfl, e1, e2⟩ := y
            obtain ⟨d, hd, hat⟩ := AtL.getv (hl.mono s1) e1
            obtain ⟨d2, hd2, hat2⟩ := AtL.getv (hl2.mono s1) e2
            obtain ⟨G2, g2, h2⟩ := pair_at s2 hT rfl hat hat2
            refine ⟨G2, _, ?_, g2, h2⟩
            simp [List.getElem?_map, hd, hd2, List.zip, List.getElem?_zipWith]
theorem ij_range1P {PI : Int → Prop} (h : EJ ρ K te δ k (fun d => ∃ n, d = .int n ∧ PI n)) (hb : ∀ n, PI n → -(2 ^ 62) ≤ n ∧ n < 2 ^ 62) : IJ ρ K (iRng1 (tCons te tNil)) δ k (fun ds => ∃ n, PI n ∧ ds = (List.range n.toNat).map fun j => D.int (0 + (j : Nat))) := .mk fun G0 H0 G H σ m R w hm q =>
  (h).run G0 H0 G H σ m _ w hm fun d v G' H' m' pd w' g l x => by
    obtain ⟨n, rfl, pn⟩ := pd
    cases x
    refine ⟨n, rfl, (hb n pn).1, (hb n pn).2, q _ (Itr 0 n.toNat) G' H' _ _ m' ⟨n, pn, rfl⟩ w' g l (by simp only [List.length_map, List.length_range]; exact walk_range) (fun H2 s => trivial) ?_⟩
    intro i x H1 H2 Gx hi s1 s2 y
    obtain ⟨rfl, rfl⟩ := y
    simp only [List.length_map, List.length_range] at hi
    exact ⟨Gx, _, by simp [List.getElem?_map, List.getElem?_range, hi], Gd.refl s2, .int _⟩
theorem ij_range1 {n : Int} (h : ED ρ K te δ (.int n)) (hb : -(2 ^ 62) ≤ n ∧ n < 2 ^ 62) : IJ ρ K (iRng1 (tCons te tNil)) δ 0 (· = (List.range n.toNat).map fun j => D.int (0 + (j : Nat))) := .mk fun G0 H0 G H σ m R w hm q =>
  (ij_range1P (PI := (· = n)) (h.mono (Nat.le_refl _) fun d e => ⟨n, e, rfl⟩) (fun x e => by subst e; exact hb)).run G0 H0 G H σ m R w hm fun ds J G' H' Gp Y m' pd => by
    obtain ⟨x, rfl, rfl⟩ := pd
    exact q _ J G' H' Gp Y m' rfl

/-- the outcomes of a turn -/
def Turn (Nx Br : Dl → Prop) (PO : Out → Prop) : Out → Prop
  | .nx δ => Nx δ
  | .ct δ => Nx δ
  | .bk δ => Br δ
  | .rt d => PO (.rt d)
  | .ex C d => PO (.ex C d)
/-- the base is moved on -/
theorem Wf.rebase {G0 H0 G H : Hp} {σ : L2.St} {m : Nat} (w : Wf ρ K G0 H0 G H σ δ m) : Wf ρ K G H0 G H σ δ m :=
  ⟨w.len, ⟨w.gd.keep, Same.refl _, w.gd.sub, fun b e => .inl e, w.gd.ot⟩, w.pot, fun a e => ⟨(w.pot0 a e).1, w.gnone e⟩, w.sl, w.ap⟩
theorem Gd.unbase {G0 H0 G H G' H' : Hp} (g : Gd ρ G0 H0 G H) (h : Gd ρ G H0 G' H') : Gd ρ G0 H0 G' H' :=
  ⟨h.keep, g.gg.trans h.gg, h.sub, fun b e => by
    rcases h.new b e with z | z
    · exact g.new b z
    · exact .inr z, h.ot⟩
theorem Wf.unbase {G0 H0 G H G' H' : Hp} {σ σ' : L2.St} {m m' : Nat} (w : Wf ρ K G0 H0 G H σ δ m) (w' : Wf ρ K G H0 G' H' σ' δ' m') : Wf ρ K G0 H0 G' H' σ' δ' m' :=
  ⟨w'.len, Gd.unbase w.gd w'.gd, w'.pot, w.pot0, w'.sl, w'.ap⟩
theorem sj_for {wi : TI} {g : TG} {L : List Nat} {PI : List D → Prop} {N kb : Nat} (hi : IJ ρ K wi δ k1 PI) (Inv : List D → Nat → Dl → Prop) (Br : Dl → Prop) (hN : ∀ ds, PI ds → ds.length ≤ N) (h0 : ∀ ds, PI ds → Inv ds 0 δ)
    (hs : ∀ ds i d δ', PI ds → ds[i]? = some d → Inv ds i δ' → ∃ δ'', GJ ρ K g L d δ' δ'' ∧ SJ ρ K E tb' δ'' kb (Turn (Inv ds (i + 1)) Br PO))
    (hd : ∀ ds δ', PI ds → (Inv ds ds.length δ' ∨ Br δ') → SJ ρ K E u δ' k2 PO) : SJ ρ K E (tSeq (tFor wi g tb') u) δ (k1 + (N * kb + k2)) PO := .mk fun G0 H0 G H σ m D w hm q =>
  (hi).run G0 H0 G H σ m _ w (by omega) fun ds J G1 H1 Gp Y m1 pds w1 g1 l1 wk hgp hy => by
    have hn := hN ds pds
    have hkb : ds.length * kb ≤ N * kb := Nat.mul_le_mul_right _ hn
    let Pv : Nat → L2.St → Hp → Prop := fun i σ' H' => ∃ δ' G' m', Inv ds i δ' ∧ Wf ρ K G1 H0 G' H' σ' δ' m' ∧ m' ≤ m1 + i * kb
    have fin : ∀ σ' H' δ' G' m', (Inv ds ds.length δ' ∨ Br δ') → Wf ρ K G1 H0 G' H' σ' δ' m' → m' ≤ m1 + N * kb → u D σ' H' := fun σ' H' δ' G' m' hb w' l' =>
      (hd ds δ' pds hb).run G0 H0 G' H' σ' m' D (w1.unbase w') (by omega) fun o po => (q o po).le (by omega)
    -- the loop's own way: a break goes to what follows
    refine ⟨fun i n σ' H' => n = ds.length - i ∧ i ≤ ds.length ∧ Pv i σ' H', ⟨ds.length, rfl, Nat.zero_le _, δ, G1, m1, h0 ds pds, w1.rebase, by omega⟩, ?_⟩
    rintro i n σ' H' ⟨rfl, hile, δ', G', m', hinv, w', l'⟩
    have hGp : Gp H' := hgp H' (w'.gd.gg.trans w'.gd.sub)
    by_cases hlt : i < ds.length
    · have hstep : (i + 1) * kb ≤ ds.length * kb := Nat.mul_le_mul_right _ hlt
      have hs1 : (i + 1) * kb = i * kb + kb := Nat.succ_mul i kb
      refine .inr ⟨wk.goes i H' hlt hGp, Pv (i + 1), fun σ2 H2 p => ⟨ds.length - (i + 1), by omega, rfl, hlt, p⟩, fun x H2 hyd => ?_⟩
      obtain ⟨G2, d, hd', g2, hat⟩ := hy i x H' H2 G' hlt w'.gd.gg w'.gd.sub (wk.yields i H' x H2 hlt hGp hyd)
      have w2 := w'.step g2.weak (w'.pot.keep g2)
      obtain ⟨δ'', hg, hsj⟩ := hs ds i d δ' pds hd' hinv
      refine (hg).run G1 H0 G2 H2 σ' x m' _ w2 hat fun σ3 w3 _ => ?_
      refine (hsj).run G1 H0 G2 H2 σ3 m' _ w3 (by omega) fun o po => ?_
      cases o with
      | nx δ3 => exact fun G4 H4 σ4 m4 w4 l4 => ⟨δ3, G4, m4, po, w4, by omega⟩
      | ct δ3 => exact fun G4 H4 σ4 m4 w4 l4 => ⟨δ3, G4, m4, po, w4, by omega⟩
      | bk δ3 => exact fun G4 H4 σ4 m4 w4 l4 => fin σ4 H4 δ3 G4 m4 (.inr po) w4 (by omega)
      | rt d3 => exact fun v G4 H4 m4 g4 p4 l4 a4 => q (.rt d3) po v G4 H4 m4 (Gd.unbase w1.gd g4) p4 (by omega) a4
      | ex C d3 => exact fun p v G4 H4 m4 g4 p4 l4 x4 a4 => q (.ex C d3) po p v G4 H4 m4 (Gd.unbase w1.gd g4) p4 (by omega) x4 a4
    · have e : i = ds.length := by omega
      subst e
      exact .inl ⟨wk.stops H' hGp, fin σ' H' δ' G' m' (.inl hinv) w' (by omega)⟩

/-! ### comprehensions -/
def wipeD (δ : Dl) : List Nat → Dl
  | [] => δ
  | v :: vs => (wipeD δ vs).set v none
theorem wipeD_len : ∀ (vs : List Nat), (wipeD δ vs).length = δ.length
  | [] => rfl
  | v :: vs => by unfold wipeD; rw [List.length_set, wipeD_len vs]
theorem wipeD_some {s : Sl} : ∀ {vs : List Nat} {i : Nat}, (wipeD δ vs)[i]? = some (some s) → δ[i]? = some (some s) ∧ i ∉ vs
  | [], i, h => ⟨h, by simp⟩
  | v :: vs, i, h => by
    unfold wipeD at h
    by_cases hi : v = i
    · subst hi
      by_cases hv : v < (wipeD δ vs).length
      · rw [List.getElem?_set_self hv] at h; cases h
      · rw [List.getElem?_eq_none (by rw [List.length_set]; omega)] at h; cases h
    · rw [List.getElem?_set_ne hi] at h
      obtain ⟨h1, h2⟩ := wipeD_some h
      exact ⟨h1, by simp only [List.mem_cons, not_or]; exact ⟨fun e => hi e.symm, h2⟩⟩
theorem wipe_ne {σ : L2.St} : ∀ {vs : List Nat} {i : Nat}, i ∉ vs → (wipe σ vs)[i]? = σ[i]?
  | [], _, _ => rfl
  | v :: vs, i, h => by
    unfold wipe
    rw [List.getElem?_set_ne (fun e => h (by rw [e]; exact List.mem_cons_self ..))]
    exact wipe_ne fun z => h (List.mem_cons_of_mem _ z)
theorem wipe_idem {σ : L2.St} (vs : List Nat) : wipe (wipe σ vs) vs = wipe σ vs := by
  have key : ∀ (ws : List Nat), (∀ i ∈ ws, i ∈ vs) → wipe (wipe σ ws) vs = wipe σ vs := by
    intro ws
    induction ws with
    | nil => intro _; rfl
    | cons y ys ih =>
      intro h
      show wipe ((wipe σ ys).set y none) vs = wipe σ vs
      rw [wipe_set_mem (h y (List.mem_cons_self ..))]
      exact ih fun i hi => h i (List.mem_cons_of_mem _ hi)
  exact key vs fun i h => h
theorem Wf.wipe {G0 H0 G H : Hp} {σ : L2.St} {m : Nat} (w : Wf ρ K G0 H0 G H σ δ m) (vs : List Nat) : Wf ρ K G0 H0 G H (L2.wipe σ vs) (wipeD δ vs) m where
  len := by rw [wipe_length, wipeD_len]; exact w.len
  gd := w.gd
  pot := w.pot
  pot0 := w.pot0
  sl := fun i s e => by
    obtain ⟨e1, e2⟩ := wipeD_some e
    obtain ⟨v, h1, h2⟩ := w.sl i s e1
    exact ⟨v, by rw [wipe_ne e2]; exact h1, h2⟩
  ap := fun i j d e n h1 h2 => by
    obtain ⟨a1, a2⟩ := wipeD_some h1
    obtain ⟨b1, b2⟩ := wipeD_some h2
    rw [wipe_ne a2, wipe_ne b2]
    exact w.ap i j d e n a1 b1
/-- another slots' view over the same heaps -/
theorem Wf.back {G0 H0 G H G' H' : Hp} {σ σ' : L2.St} {δ1 : Dl} {m m' : Nat} (w : Wf ρ K G0 H0 G H σ δ m) (w' : Wf ρ K G0 H0 G' H' σ' δ1 m') (g : Gd ρ G H G' H') : Wf ρ K G0 H0 G' H' σ δ m' := w.step g w'.pot
/-- an object p, new since H, is laid anew -/
theorem Gd.upd {G H G' H' : Hp} {p : Addr} {o : HO} (g : Gd ρ G H G' H') (n : H p = none) (n' : G' p = none) (ho : Nt o := by (intro _ z; cases z)) : Gd ρ G H G' (L2.upd H' p o) :=
  ⟨fun b u h e => by rw [upd_ne (ne_of_none e n)]; exact g.keep b u h e, g.gg, fun b u e => by rw [upd_ne (ne_of_none e n')]; exact g.sub b u e, g.new, fun h => (g.ot h).upd ho⟩
/-- lists alike, item by item -/
inductive All2 {α β : Type} (R : α → β → Prop) : List α → List β → Prop
  | nil : All2 R [] []
  | cons {a : α} {b : β} {as : List α} {bs : List β} : R a b → All2 R as bs → All2 R (a :: as) (b :: bs)
theorem All2.snoc {α β : Type} {R : α → β → Prop} : ∀ {as : List α} {bs : List β} {a : α} {b : β}, All2 R as bs → R a b → All2 R (as ++ [a]) (bs ++ [b])
  | _, _, _, _, .nil, h => .cons h .nil
  | _, _, _, _, .cons h t, u => .cons h (t.snoc u)
theorem All2.len {α β : Type} {R : α → β → Prop} : ∀ {as : List α} {bs : List β}, All2 R as bs → as.length = bs.length
  | _, _, .nil => rfl
  | _, _, .cons _ t => congrArg (· + 1) t.len
theorem All2.map_of {α β : Type} {f : α → β} : ∀ {as : List α} {bs : List β}, All2 (fun a b => b = f a) as bs → bs = as.map f
  | _, _, .nil => rfl
  | _, _, .cons h t => by subst h; rw [All2.map_of t]; rfl
theorem take_snoc {α : Type} {l : List α} {i : Nat} {x : α} (h : l[i]? = some x) : l.take (i + 1) = l.take i ++ [x] := by
  rw [List.take_add_one, h]; rfl
/-- [te for g in wi if tt]: p tells which stay, R what comes of each -/
theorem en_lc {wi : TI} {g : TG} {L vs : List Nat} {PI : List D → Prop} {N ke : Nat} {p : D → Bool} {R : D → D → Prop} {δt : D → Dl} (hi : IJ ρ K wi δ k1 PI) (hN : ∀ ds, PI ds → ds.length ≤ N) (hL : ∀ i ∈ L, i ∈ vs) (hN2 : N ≤ 1000000)
    (hg : ∀ ds d, PI ds → d ∈ ds → GJ ρ K g L d (wipeD δ vs) (δt d)) (ht : ∀ ds d, PI ds → d ∈ ds → EB ρ K tt (δt d) (p d)) (he : ∀ ds d, PI ds → d ∈ ds → p d = true → EJ ρ K te (δt d) ke (R d)) :
    EN ρ K (tLc wi g tt te vs) δ (k1 + N * ke) (fun r => ∃ ds rs, r = .lst rs ∧ PI ds ∧ All2 R (ds.filter p) rs) := .mk fun G0 H0 G H σ m Q w hm q =>
  (hi).run G0 H0 G H σ m _ w (by omega) fun ds J G1 H1 Gp Y m1 pds w1 g1 l1 wk hgp hy => fun L0 hL0 => by
    have hn := hN ds pds
    have hkb : ds.length * ke ≤ N * ke := Nat.mul_le_mul_right _ hn
    have nLp : ∀ o, Nt o → PotS ρ m1 (L2.upd H1 L0 o) := fun o ho => w1.pot.new hL0 ho
    let Pv : Nat → Hp → Prop := fun i Hc => ∃ Gc mc acc rs, Gd ρ G1 H1 Gc Hc ∧ PotS ρ mc Hc ∧ mc ≤ m1 + i * ke ∧ Hc L0 = some (.lst acc) ∧ AtL K Gc acc rs ∧ Gc L0 = none ∧ All2 R ((ds.take i).filter p) rs
    have toW : ∀ {Gc Hc : Hp} {mc : Nat}, Gd ρ G1 H1 Gc Hc → PotS ρ mc Hc → Wf ρ K G0 H0 Gc Hc σ δ mc := fun g2 p2 => w1.step g2 p2
    refine lc_it wk Pv ?_ (fun i Hc _ h => ?_) (fun i x Hc Hx hlt h hyd => ?_) (fun Hc h => ?_)
    · refine ⟨G1, m1, [], [], (Gd.alloc0 w1.gd.sub hL0).weak, nLp _ (by (intro _ z; cases z)), by omega, upd_same, .nil, ?_, by simpa using All2.nil⟩
      cases z : G1 L0 with
      | none => rfl
      | some o => rw [w1.gd.sub _ _ z] at hL0; cases hL0
    · obtain ⟨Gc, mc, acc, rs, g2, _⟩ := h
      exact hgp Hc (g2.gg.trans g2.sub)
    · obtain ⟨Gc, mc, acc, rs, g2, p2, l2, hacc, hat, hgc, hall⟩ := h
      have hstep : (i + 1) * ke ≤ ds.length * ke := Nat.mul_le_mul_right _ hlt
      have hs1 : (i + 1) * ke = i * ke + ke := Nat.succ_mul i ke
      obtain ⟨G2, d, hd, g3, had⟩ := hy i x Hc Hx Gc hlt g2.gg g2.sub hyd
      have w2 := toW g2 p2
      have w3 := w2.step g3.weak (p2.keep g3)
      have accx : Hx L0 = some (.lst acc) := g3.keep _ _ fxN hacc
      have gx : G2 L0 = none := by
        cases z : G2 L0 with
        | none => rfl
        | some o =>
          rcases g3.new L0 (ne_none_of z) with y | y
          · exact absurd hgc y
          · rw [hacc] at y; cases y
      have hmem : d ∈ ds := List.mem_of_getElem? hd
      refine (hg ds d pds hmem).run G0 H0 G2 Hx (L2.wipe σ vs) x mc _ (w3.wipe vs) had fun σ2 w4 hw => ⟨by rw [hw vs hL, wipe_idem], ?_⟩
      refine (ht ds d pds hmem).run G0 H0 G2 Hx σ2 mc _ w4 (by omega) fun b G3 H3 m3 pb w5 g4 l5 => ?_
      subst pb
      have nr : Fx ρ L0 := w1.pot.fx hL0
      have g5 : Gd ρ G1 H1 G3 H3 := Gd.trans (w3.pot) (Gd.trans p2 g2 g3.weak) g4
      have acc3 : H3 L0 = some (.lst acc) := g4.keep _ _ nr accx
      have g3n : G3 L0 = none := by
        cases z : G3 L0 with
        | none => rfl
        | some o =>
          rcases g4.new L0 (ne_none_of z) with y | y
          · exact absurd gx y
          · rw [accx] at y; cases y
      cases hpd : p d with
      | false =>
        refine iteF ⟨G3, m3, acc, rs, g5, w5.pot, by omega, acc3, (hat.mono g3.gg).mono g4.gg, g3n, ?_⟩
        rw [take_snoc hd, List.filter_append]
        simpa [hpd] using hall
      | true =>
        refine iteT ?_
        refine (he ds d pds hmem hpd).run G0 H0 G3 H3 σ2 m3 _ w5 (by omega) fun r v G6 H6 m6 pr w6 g6 l6 ar => ?_
        have acc6 : H6 L0 = some (.lst acc) := g6.keep _ _ nr acc3
        have g6n : G6 L0 = none := by
          cases z : G6 L0 with
          | none => rfl
          | some o =>
            rcases g6.new L0 (ne_none_of z) with y | y
            · exact absurd g3n y
            · rw [acc3] at y; cases y
        have g7 : Gd ρ G1 H1 G6 H6 := Gd.trans w5.pot g5 g6
        have hrl : acc.length = rs.length := hat.len
        have hrl2 : ((ds.take i).filter p).length = rs.length := hall.len
        have hfl : ((ds.take i).filter p).length ≤ ds.length := Nat.le_trans (List.length_filter_le _ _) (by rw [List.length_take]; omega)
        refine ⟨acc, acc6, Nat.lt_of_le_of_lt (show acc.length ≤ 1000000 by omega) (by decide), G6, m6, acc ++ [v], rs ++ [r], g7.upd hL0 g6n, w6.pot.set nr acc6 rfl, by omega, upd_same, AtL.app (((hat.mono g3.gg).mono g4.gg).mono g6.gg) (.cons ar .nil), g6n, ?_⟩
        rw [take_snoc hd, List.filter_append]
        simpa [hpd] using hall.snoc pr
    · obtain ⟨Gc, mc, acc, rs, g2, p2, l2, hacc, hat, hgc, hall⟩ := h
      rw [List.take_length] at hall
      have hp0 : H L0 = none := by
        cases z : H L0 with
        | none => rfl
        | some x =>
          by_cases y : Mv ρ L0
          · exact absurd hL0 (w1.pot.ne y)
          · rw [g1.keep _ x y z] at hL0; cases hL0
      exact q _ L0 (.lst acc) Gc Hc mc ⟨ds, rs, rfl, pds, hall⟩ (toW g2 p2) (Gd.trans w1.pot g1 g2) (by omega) hp0 hacc (.lst hat) hgc
theorem eb_yes : EB ρ K tYes δ true := .mk fun G0 H0 G H σ m Q w hm q => q true G H m rfl w (Gd.refl w.gd.sub) (Nat.le_refl _)
/-- the same, each item's own datum told -/
theorem en_lcE {wi : TI} {g : TG} {L vs : List Nat} {ds : List D} {p : D → Bool} {f : D → D} {δt : D → Dl} (hi : IJ ρ K wi δ 0 (· = ds)) (hL : ∀ i ∈ L, i ∈ vs) (hN : ds.length ≤ 1000000)
    (hg : ∀ d, d ∈ ds → GJ ρ K g L d (wipeD δ vs) (δt d)) (ht : ∀ d, d ∈ ds → EB ρ K tt (δt d) (p d)) (he : ∀ d, d ∈ ds → p d = true → ED ρ K te (δt d) (f d)) :
    EN ρ K (tLc wi g tt te vs) δ 0 (· = .lst ((ds.filter p).map f)) :=
  (en_lc (PI := (· = ds)) (N := ds.length) (ke := 0) (R := fun d r => r = f d) hi (fun es e => by subst e; exact Nat.le_refl _) hL hN (fun es d e hd => hg d (by subst e; exact hd)) (fun es d e hd => ht d (by subst e; exact hd)) (fun es d e hd => he d (by subst e; exact hd))).mono (by omega) fun r h => by
    obtain ⟨es, rs, rfl, rfl, ha⟩ := h
    rw [All2.map_of ha]

/-! ### promises -/
def initD (n : Nat) (ds : List D) : Dl := ds.map (fun d => some (.val d)) ++ List.replicate (n - ds.length) none
def spJ (K : PySem.W.Frag) (n : Nat) (pre : Rh → List D → Prop) (c : Nat) (post : List D → D → Prop) : Sp := fun vs H Q _ => ∃ (ρ : Rh) (G : Hp) (ds : List D) (m : Nat), AtL K G vs ds ∧ ds.length = n ∧ Same G H ∧ PotS ρ m H ∧
  (∀ a, Mv ρ a → G a = none) ∧ m + c ≤ Mx ∧ pre ρ ds ∧ ∀ d v G' H' m', post ds d → Gd ρ G H G' H' → PotS ρ m' H' → m' ≤ m + c → At K G' v d → Q v H'
theorem spJ_len {n c : Nat} {pre : Rh → List D → Prop} {post : List D → D → Prop} {vs : List V} {H : Hp} {Q : VK} {E : XK} (h : spJ K n pre c post vs H Q E) : vs.length = n := by
  obtain ⟨ρ, G, ds, m, h1, h2, _⟩ := h
  rw [h1.len]; exact h2
theorem ej_call {n c : Nat} {pre : Rh → List D → Prop} {post : List D → D → Prop} {PA : List D → Prop} {EE : XK} (h : EA ρ K tA δ k PA) (h1 : ∀ ds, PA ds → ds.length = n ∧ pre ρ ds) (h2 : ∀ ds d, PA ds → post ds d → P d) :
    EJ ρ K (tCall (spJ K n pre c post) [] EE tA) δ (k + c) P := .mk fun G0 H0 G H σ m Q w hm q =>
  (h).run G0 H0 G H σ m _ w (by omega) fun ds vs G1 H1 m1 px w1 g1 l1 ax => by
    show spJ K n pre c post (vs ++ []) H1 Q EE
    rw [List.append_nil]
    exact ⟨ρ, G1, ds, m1, ax, (h1 ds px).1, w1.gd.sub, w1.pot, fun a e => w1.gnone e, by omega, (h1 ds px).2, fun d v G2 H2 m2 pd g2 p2 l2 a2 => q d v G2 H2 m2 (h2 ds d px pd) (w1.step g2 p2) (Gd.trans w1.pot g1 g2) (by omega) a2⟩
theorem start_get {N : List Str} {vs : List V} {i : Nat} {v : V} (h : vs[i]? = some v) : (L2.start N vs)[i]? = some (some v) := by
  unfold L2.start
  have hi : i < vs.length := (List.getElem?_eq_some_iff.mp h).1
  rw [List.getElem?_append_left (by rw [List.length_map]; exact hi), List.getElem?_map, h]; rfl
theorem body_of {N : List Str} {n c : Nat} {pre : Rh → List D → Prop} {post : List D → D → Prop} {vs : List V} {H : Hp} {Q : VK} {EE : XK}
    (hb : ∀ ρ ds, ds.length = n → pre ρ ds → ∃ k, k ≤ c ∧ SJ ρ K EE ts (initD N.length ds) k (fun o => (∃ d, o = .rt d ∧ post ds d) ∨ (∃ δ, o = .nx δ ∧ post ds .non))) (h : spJ K n pre c post vs H Q EE) :
    ts { nx := fun _ H' => Q .non H', rt := Q } (L2.start N vs) H := by
  obtain ⟨ρ, G, ds, m, ha, hl, hs, hp, hg, hm, hpre, q⟩ := h
  obtain ⟨k, hk, hb⟩ := hb ρ ds hl hpre
  have hvl := ha.len
  have dl : ∀ {i : Nat} {s : Sl}, (initD N.length ds)[i]? = some (some s) → ∃ d, s = .val d ∧ ds[i]? = some d := by
    intro i s e
    unfold initD at e
    by_cases hi : i < ds.length
    · rw [List.getElem?_append_left (by rw [List.length_map]; exact hi), List.getElem?_map, List.getElem?_eq_getElem hi] at e
      cases e
      exact ⟨ds[i], rfl, List.getElem?_eq_getElem hi⟩
    · rw [List.getElem?_append_right (by rw [List.length_map]; omega)] at e
      have e2 := (List.getElem?_replicate).symm.trans e
      split at e2 <;> cases e2
  have w : Wf ρ K G H G H (L2.start N vs) (initD N.length ds) m := by
    refine ⟨?_, Gd.refl hs, hp, fun a e => ⟨?_, hg a e⟩, fun i s e => ?_, fun i j d e n h1 h2 => ?_⟩
    · unfold L2.start initD
      rw [List.length_append, List.length_append, List.length_map, List.length_map, List.length_replicate, List.length_replicate, hvl]
    · exact hp.ne e
    · obtain ⟨d, rfl, hd⟩ := dl e
      obtain ⟨v, hv, hav⟩ := ha.get hd
      exact ⟨v, start_get hv, hav⟩
    · obtain ⟨x, hx, _⟩ := dl h1
      cases hx
  refine hb.run G H G H (L2.start N vs) m _ w (by omega) fun o po => ?_
  rcases po with ⟨d, rfl, pd⟩ | ⟨δ, rfl, pd⟩
  · exact fun v G' H' m' g p l a => q d v G' H' m' pd g p (by omega) a
  · exact fun G' H' σ' m' w' l => q .non .non G' H' m' pd w'.gd w'.pot (by omega) .non
end
end DN

/-! ground 4: operations over data -/
namespace DN
open PySem PySem.Spec PyProof.Rows L2
variable [Tb]
section
variable {ρ : Rh} {K : PySem.W.Frag} {E : XK} {δ δ' : Dl} {te ta tb tc : TE} {t u ts : TS} {tt tu : TT} {tA : TA} {k k1 k2 k3 : Nat} {P P1 P2 : D → Prop} {PO PO' : Out → Prop} {a b c d : D} {i : Nat} {X : Cx}

/-! ints -/
theorem rj_I0 {f : Int → Int → Int} {i j : Int} : RJ K (rI0 fun i j => .int (f i j)) (.int i) (.int j) (.int (f i j)) := .mk fun x y G H Q hx hy s q => by
  cases hx; cases hy
  exact ⟨i, j, rfl, rfl, q _ G H (Gd.refl s) (.int _)⟩
theorem rj_B0 {f : Int → Int → Bool} {i j : Int} : RJ K (rI0 fun i j => .bl (f i j)) (.int i) (.int j) (.bl (f i j)) := .mk fun x y G H Q hx hy s q => by
  cases hx; cases hy
  exact ⟨i, j, rfl, rfl, q _ G H (Gd.refl s) (.bl _)⟩
theorem rj_I {C : Int → Int → Prop} {f : Int → Int → Int} {i j : Int} (h : C i j) : RJ K (rI C fun i j => .int (f i j)) (.int i) (.int j) (.int (f i j)) := .mk fun x y G H Q hx hy s q => by
  cases hx; cases hy
  exact ⟨i, j, rfl, rfl, h, q _ G H (Gd.refl s) (.int _)⟩
/-! == of atoms -/
def atomD : D → Bool
  | .non => true | .bl _ => true | .int _ => true | .str _ => true | _ => false
def scalD : D → D → Bool
  | .non, .non => true | .non, .int _ => true | .int _, .non => true | .non, .bl _ => true | .bl _, .non => true | .non, .str _ => true | .str _, .non => true
  | .int _, .int _ => true | .bl _, .bl _ => true | .str _, .str _ => true
  | .int _, .str _ => true | .str _, .int _ => true | .bl _, .str _ => true | .str _, .bl _ => true
  | _, _ => false
def eqA : D → D → Bool
  | .non, .non => true | .bl a, .bl b => decide (a = b) | .int a, .int b => decide (a = b) | .str a, .str b => decide (a = b) | _, _ => false
theorem at_scal {G : Hp} {x y : V} {a b : D} (hx : At K G x a) (hy : At K G y b) (h : scalD a b = true) : scal x y = true ∧ decide (x = y) = eqA a b := by
  cases hx <;> first | (cases hy <;> first | exact ⟨rfl, by simp [eqA]⟩ | exact absurd h (by simp [scalD])) | exact absurd h (by simp [scalD])
theorem rj_eq {a b : D} (h : scalD a b = true) : RJ K rEq a b (.bl (eqA a b)) := .mk fun x y G H Q hx hy s q => by
  obtain ⟨h1, h2⟩ := at_scal hx hy h
  refine ⟨h1, ?_⟩
  rw [h2]
  exact q _ G H (Gd.refl s) (.bl _)
theorem rj_ne {a b : D} (h : scalD a b = true) : RJ K rNe a b (.bl (!eqA a b)) := .mk fun x y G H Q hx hy s q => by
  obtain ⟨h1, h2⟩ := at_scal hx hy h
  refine ⟨h1, ?_⟩
  rw [h2]
  exact q _ G H (Gd.refl s) (.bl _)
theorem rj_eqI {i j : Int} : RJ K rEq (.int i) (.int j) (.bl (decide (i = j))) := rj_eq rfl
theorem rj_neI {i j : Int} : RJ K rNe (.int i) (.int j) (.bl (!decide (i = j))) := rj_ne rfl
theorem rj_eqS {i j : Str} : RJ K rEq (.str i) (.str j) (.bl (decide (i = j))) := rj_eq rfl
theorem rj_neS {i j : Str} : RJ K rNe (.str i) (.str j) (.bl (!decide (i = j))) := rj_ne rfl
/-! items -/
theorem AtL.atI {G : Hp} {vs : List V} {ds : List D} {i : Int} {d : D} (h : AtL K G vs ds) (e : L2.atI ds i = some d) : ∃ v, L2.atI vs i = some v ∧ At K G v d := by
  unfold L2.atI at e ⊢
  rw [h.len]
  cases q : ixN ds.length i with
  | none => rw [q] at e; cases e
  | some j =>
    rw [q] at e
    exact h.get e
theorem rj_ixL {ds : List D} {i : Int} {d : D} (e : atI ds i = some d) : RJ K (rIxL K) (.lst ds) (.int i) d := .mk fun x y G H Q hx hy s q => by
  cases hy
  cases hx with
  | @lst a xs _ ha hl =>
    obtain ⟨v, h1, h2⟩ := hl.atI e
    exact ⟨a, xs, i, v, rfl, rfl, .inl (.inl (s _ _ ha)), h1, q v G H (Gd.refl s) h2⟩
theorem rj_ixT {ds : List D} {i : Int} {d : D} (e : atI ds i = some d) : RJ K (rIxT K) (.tup ds) (.int i) d := .mk fun x y G H Q hx hy s q => by
  cases hy
  cases hx with
  | @tup a xs _ ha hl =>
    obtain ⟨v, h1, h2⟩ := hl.atI e
    exact ⟨a, xs, i, v, rfl, rfl, Same.sqT s ha, h1, q v G H (Gd.refl s) h2⟩
theorem rj_ixS {z : Str} {i : Int} {c : Nat} (hz : z.length ≤ 1000000) (e : atI z.cps.toList i = some c) : RJ K rIxS (.str z) (.int i) (.str ⟨#[c]⟩) := .mk fun x y G H Q hx hy s q => by
  cases hx; cases hy
  exact ⟨z, i, c, rfl, rfl, Nat.le_trans hz (by decide), e, q _ G H (Gd.refl s) (.str _)⟩
/-! in, not in: flat items -/
def eqF : D → D → Bool
  | .non, .non => true
  | .bl a, .bl b => a == b
  | .bl a, .int b => (if a then 1 else 0) == b
  | .int a, .bl b => a == (if b then 1 else 0)
  | .int a, .int b => a == b
  | .str a, .str b => a == b
  | _, _ => false
theorem at_flat {G : Hp} {x : V} {a : D} (hx : At K G x a) (h : atomD a = true) : flatV x = true := by
  cases hx <;> first | rfl | exact absurd h (by simp [atomD])
theorem at_eqV {G : Hp} {x y : V} {a b : D} (hx : At K G x a) (hy : At K G y b) (h : atomD a = true) (h' : atomD b = true) : eqV x y = eqF a b := by
  cases hx <;> first | (exfalso; revert h; simp [atomD]; done) | (cases hy <;> first | (exfalso; revert h'; simp [atomD]; done) | rfl)
theorem at_inV {G : Hp} {x : V} {a : D} (hx : At K G x a) (h : atomD a = true) : ∀ {vs : List V} {ds : List D}, AtL K G vs ds → ds.all atomD = true → vs.all flatV = true ∧ inV x vs = ds.any fun y => eqF y a
  | _, _, .nil, _ => ⟨rfl, rfl⟩
  | _, _, .cons hv ht, hf => by
    rw [List.all_cons, Bool.and_eq_true] at hf
    obtain ⟨h1, h2⟩ := at_inV hx h ht hf.2
    refine ⟨by rw [List.all_cons, at_flat hv hf.1, h1]; rfl, ?_⟩
    unfold inV at h2 ⊢
    rw [List.any_cons, List.any_cons, at_eqV hv hx hf.1 h, h2]
theorem rj_in {neg : Bool} {ds : List D} {a : D} (h : atomD a = true) (hf : ds.all atomD = true) : RJ K (rIn K neg) a (.lst ds) (.bl (if neg then !(ds.any fun y => eqF y a) else ds.any fun y => eqF y a)) := .mk fun x y G H Q hx hy s q => by
  cases hy with
  | @lst p xs _ ha hl =>
    obtain ⟨h1, h2⟩ := at_inV hx h hl hf
    refine ⟨p, xs, rfl, .inl (.inl (.inl (s _ _ ha))), at_flat hx h, h1, ?_⟩
    rw [h2]
    exact q _ G H (Gd.refl s) (.bl _)
theorem rj_inT {neg : Bool} {ds : List D} {a : D} (h : atomD a = true) (hf : ds.all atomD = true) : RJ K (rIn K neg) a (.tup ds) (.bl (if neg then !(ds.any fun y => eqF y a) else ds.any fun y => eqF y a)) := .mk fun x y G H Q hx hy s q => by
  cases hy with
  | @tup p xs _ ha hl =>
    obtain ⟨h1, h2⟩ := at_inV hx h hl hf
    refine ⟨p, xs, rfl, .inr (Same.sqT s ha), at_flat hx h, h1, ?_⟩
    rw [h2]
    exact q _ G H (Gd.refl s) (.bl _)
/-! built-ins -/
theorem cj_len {ds : List D} : CJ K (fun xs H Q => ∃ p ys, xs = [.ref p] ∧ (SqL K H p ys ∨ SqT K H p ys) ∧ Q (.int ys.length) H) [.lst ds] (.int (ds.length : Nat)) := .mk fun xs G H Q hx s q => by
  cases hx with
  | cons h r =>
    cases r
    cases h with
    | @lst p ys _ ha hl => exact ⟨p, ys, rfl, .inl (.inl (.inl (s _ _ ha))), q _ G H (Gd.refl s) (by rw [hl.len]; exact .int _)⟩
theorem cj_lenT {ds : List D} : CJ K (fun xs H Q => ∃ p ys, xs = [.ref p] ∧ (SqL K H p ys ∨ SqT K H p ys) ∧ Q (.int ys.length) H) [.tup ds] (.int (ds.length : Nat)) := .mk fun xs G H Q hx s q => by
  cases hx with
  | cons h r =>
    cases r
    cases h with
    | @tup p ys _ ha hl => exact ⟨p, ys, rfl, .inr (Same.sqT s ha), q _ G H (Gd.refl s) (by rw [hl.len]; exact .int _)⟩
theorem cj_lenS {z : Str} (hz : z.length ≤ 1000000) : CJ K (fun xs H Q => ∃ z, xs = [.str z] ∧ z.length ≤ sizeLine ∧ Q (.int z.length) H) [.str z] (.int (z.length : Nat)) := .mk fun xs G H Q hx s q => by
  cases hx with
  | cons h r =>
    cases r
    cases h
    exact ⟨z, rfl, Nat.le_trans hz (by decide), q _ G H (Gd.refl s) (.int _)⟩
theorem cj_abs {i : Int} : CJ K (fun xs H Q => ∃ i, xs = [.int i] ∧ Q (.int (if i < 0 then -i else i)) H) [.int i] (.int (if i < 0 then -i else i)) := .mk fun xs G H Q hx s q => by
  cases hx with
  | cons h r =>
    cases r
    cases h
    exact ⟨i, rfl, q _ G H (Gd.refl s) (.int _)⟩
theorem cj_int {i : Int} : CJ K (fun xs H Q => (∃ i, xs = [.int i] ∧ Q (.int i) H) ∨ ∃ k, xs = [.bl k] ∧ Q (.int (if k then 1 else 0)) H) [.int i] (.int i) := .mk fun xs G H Q hx s q => by
  cases hx with
  | cons h r =>
    cases r
    cases h
    exact .inl ⟨i, rfl, q _ G H (Gd.refl s) (.int _)⟩
theorem cj_intB {b : Bool} : CJ K (fun xs H Q => (∃ i, xs = [.int i] ∧ Q (.int i) H) ∨ ∃ k, xs = [.bl k] ∧ Q (.int (if k then 1 else 0)) H) [.bl b] (.int (if b then 1 else 0)) := .mk fun xs G H Q hx s q => by
  cases hx with
  | cons h r =>
    cases r
    cases h
    exact .inr ⟨b, rfl, q _ G H (Gd.refl s) (.int _)⟩
theorem cj_str {i : Int} (h : i.natAbs.log2 < 1920) : CJ K (fun xs H Q => ∃ i, xs = [.int i] ∧ i.natAbs.log2 < 1920 ∧ Q (.str (toString i)) H) [.int i] (.str (toString i)) := .mk fun xs G H Q hx s q => by
  cases hx with
  | cons h' r =>
    cases r
    cases h'
    exact ⟨i, rfl, h, q _ G H (Gd.refl s) (.str _)⟩
theorem cj_max2 {i j : Int} : CJ K (fun xs H Q => ∃ i j, xs = [.int i, .int j] ∧ Q (.int (if j > i then j else i)) H) [.int i, .int j] (.int (if j > i then j else i)) := .mk fun xs G H Q hx s q => by
  cases hx with
  | cons h r =>
    cases r with
    | cons h2 r2 =>
      cases r2
      cases h
      cases h2
      exact ⟨i, j, rfl, q _ G H (Gd.refl s) (.int _)⟩
theorem cj_min2 {i j : Int} : CJ K (fun xs H Q => ∃ i j, xs = [.int i, .int j] ∧ Q (.int (if j < i then j else i)) H) [.int i, .int j] (.int (if j < i then j else i)) := .mk fun xs G H Q hx s q => by
  cases hx with
  | cons h r =>
    cases r with
    | cons h2 r2 =>
      cases r2
      cases h
      cases h2
      exact ⟨i, j, rfl, q _ G H (Gd.refl s) (.int _)⟩
theorem cj_sum {ns : List Int} : CJ K (rSum K) [.lst (ns.map D.int)] (.int ns.sum) := .mk fun xs G H Q hx s q => by
  cases hx with
  | cons h r =>
    cases r
    cases h with
    | @lst p ys _ ha hl =>
      have e := hl.ints
      subst e
      exact ⟨p, ns, rfl, .inl (.inl (s _ _ ha)), q _ G H (Gd.refl s) (.int _)⟩
theorem cj_all {bs : List Bool} : CJ K (rAll K) [.lst (bs.map D.bl)] (.bl (bs.all id)) := .mk fun xs G H Q hx s q => by
  cases hx with
  | cons h r =>
    cases r
    cases h with
    | @lst p ys _ ha hl =>
      have e := hl.bls
      subst e
      exact ⟨p, bs, rfl, .inl (.inl (s _ _ ha)), q _ G H (Gd.refl s) (.bl _)⟩
theorem cj_tupL {ds : List D} : CJ K (fun xs H Q => ∃ p ys, xs = [.ref p] ∧ ((SqL K H p ys ∧ ∀ l, H l = none → Q (.ref l) (upd H l (.tup ys))) ∨ (SqT K H p ys ∧ Q (.ref p) H))) [.lst ds] (.tup ds) := .mk fun xs G H Q hx s q => by
  cases hx with
  | cons h r =>
    cases r
    cases h with
    | @lst p ys _ ha hl =>
      refine ⟨p, ys, rfl, .inl ⟨.inl (.inl (s _ _ ha)), fun l hn => ?_⟩⟩
      have g := Gd.alloc (o := HO.tup ys) s hn
      exact q _ _ _ g (.tup (.inl (.inl upd_same)) (hl.mono g.gg))
theorem cj_tupT {ds : List D} : CJ K (fun xs H Q => ∃ p ys, xs = [.ref p] ∧ ((SqL K H p ys ∧ ∀ l, H l = none → Q (.ref l) (upd H l (.tup ys))) ∨ (SqT K H p ys ∧ Q (.ref p) H))) [.tup ds] (.tup ds) := .mk fun xs G H Q hx s q => by
  cases hx with
  | cons h r =>
    cases r
    cases h with
    | @tup p ys _ ha hl => exact ⟨p, ys, rfl, .inr ⟨Same.sqT s ha, q _ G H (Gd.refl s) (.tup ha hl)⟩⟩
/-- list(x) -/
theorem en_list {ds : List D} (h : EDA ρ K tA δ [.lst ds]) : EN ρ K (tCB (fun xs H Q => ∃ p ys, xs = [.ref p] ∧ (SqL K H p ys ∨ SqT K H p ys) ∧ ∀ l, H l = none → Q (.ref l) (upd H l (.lst ys))) tA) δ 0 (· = .lst ds) := .mk fun G0 H0 G H σ m Q w hm q =>
  (h).run G0 H0 G H σ m _ w hm fun es vs G1 H1 m1 px w1 g1 l1 ax => by
    subst px
    cases ax with
    | cons x r =>
      cases r
      cases x with
      | @lst p ys _ ha hl => exact ⟨p, ys, rfl, .inl (.inl (.inl (w1.gd.sub _ _ ha))), en_fin w w1 g1 (.lst hl) fun p o G' H' m' w' g' l' => q (.lst ds) p o G' H' m' rfl w' g' (by omega)⟩
theorem en_listT {ds : List D} (h : EDA ρ K tA δ [.tup ds]) : EN ρ K (tCB (fun xs H Q => ∃ p ys, xs = [.ref p] ∧ (SqL K H p ys ∨ SqT K H p ys) ∧ ∀ l, H l = none → Q (.ref l) (upd H l (.lst ys))) tA) δ 0 (· = .lst ds) := .mk fun G0 H0 G H σ m Q w hm q =>
  (h).run G0 H0 G H σ m _ w hm fun es vs G1 H1 m1 px w1 g1 l1 ax => by
    subst px
    cases ax with
    | cons x r =>
      cases r
      cases x with
      | @tup p ys _ ha hl => exact ⟨p, ys, rfl, .inr (Same.sqT w1.gd.sub ha), en_fin w w1 g1 (.lst hl) fun p o G' H' m' w' g' l' => q (.lst ds) p o G' H' m' rfl w' g' (by omega)⟩
/-- list(range(n)) -/
theorem en_listRg {n : Int} (h : ED ρ K te δ (.int n)) (h0 : 0 ≤ n) (hn : n ≤ 1000000) : EN ρ K (tLstRg (tRg1 te)) δ 0 (· = .lst ((List.range n.toNat).map fun j => D.int ((j : Nat) : Int))) := .mk fun G0 H0 G H σ m Q w hm q =>
  h.run G0 H0 G H σ m _ w hm fun d v G1 H1 m1 px w1 g1 l1 ax => by
    subst px
    cases ax
    have e : rgV 0 n = ((List.range n.toNat).map fun j => ((j : Nat) : Int)).map V.int := by
      unfold rgV
      rw [List.map_map, show n - 0 = n by omega]
      refine List.map_congr_left fun x _ => ?_
      simp
    have e2 : ((List.range n.toNat).map fun j => D.int ((j : Nat) : Int)) = ((List.range n.toNat).map fun j => ((j : Nat) : Int)).map D.int := by
      rw [List.map_map]; rfl
    refine ⟨n, rfl, RgOk.of_le (by omega) (by omega) (by omega) h0, ?_⟩
    rw [e2] at q
    rw [e]
    exact en_fin w w1 g1 (.lst (atL_ints _)) fun p o G' H' m' w' g' l' => q _ p o G' H' m' rfl w' g' (by omega)
/-! lists laid together -/
theorem en_cat {P1 P2 : List D → Prop} (ha : EJ ρ K ta δ k1 (fun d => ∃ ds, d = .lst ds ∧ P1 ds)) (hb : ∀ ds, P1 ds → EJ ρ K tb δ k2 (fun d => ∃ es, d = .lst es ∧ P2 es)) (hl : ∀ ds es, P1 ds → P2 es → ds.length + es.length ≤ 1000000) :
    EN ρ K (tOp rCat ta tb) δ (k1 + k2) (fun d => ∃ ds es, P1 ds ∧ P2 es ∧ d = .lst (ds ++ es)) := .mk fun G0 H0 G H σ m Q w hm q =>
  (ha).run G0 H0 G H σ m _ w (by omega) fun d v G1 H1 m1 px w1 g1 l1 ax => by
    obtain ⟨ds, rfl, p1⟩ := px
    refine (hb ds p1).run G0 H0 G1 H1 σ m1 _ w1 (by omega) fun d v G2 H2 m2 px w2 g2 l2 bx => ?_
    obtain ⟨es, rfl, p2⟩ := px
    have ax2 := ax.mono g2.gg
    cases ax2 with
    | @lst p xs _ hp hpl =>
      cases bx with
      | @lst p' xs' _ hp' hpl' =>
        exact ⟨p, p', xs, xs', rfl, rfl, w2.gd.sub _ _ hp, w2.gd.sub _ _ hp', by rw [hpl.len, hpl'.len]; exact Nat.le_trans (hl ds es p1 p2) (by decide),
          en_fin w w2 (Gd.trans w1.pot g1 g2) (.lst (hpl.app hpl')) fun p o G' H' m' w' g' l' => q _ p o G' H' m' ⟨ds, es, p1, p2, rfl⟩ w' g' (by omega)⟩
theorem en_catE {ds es : List D} (ha : ED ρ K ta δ (.lst ds)) (hb : ED ρ K tb δ (.lst es)) (hl : ds.length + es.length ≤ 1000000) : EN ρ K (tOp rCat ta tb) δ 0 (· = .lst (ds ++ es)) :=
  (en_cat (P1 := (· = ds)) (P2 := (· = es)) (ha.mono (Nat.le_refl _) fun d e => ⟨ds, e, rfl⟩) (fun x e => hb.mono (Nat.le_refl _) fun d e => ⟨es, e, rfl⟩) (fun x y e f => by subst e f; exact hl)).mono (Nat.le_refl _) fun d e => by
    obtain ⟨x, y, rfl, rfl, rfl⟩ := e
    rfl
theorem rj_addS {x y : Str} (h : x.length + y.length ≤ 1000000) : RJ K (fun x y H Q => ∃ i j, x = .str i ∧ y = .str j ∧ i.length + j.length ≤ sizeLine ∧ Q (.str (i ++ j)) H) (.str x) (.str y) (.str (x ++ y)) := .mk fun v w G H Q hx hy s q => by
  cases hx; cases hy
  exact ⟨x, y, rfl, rfl, Nat.le_trans h (by decide), q _ G H (Gd.refl s) (.str _)⟩
/-- an item of a list at a place that is drawn -/
theorem ej_ixL {PL : List D → Prop} {PI : Int → Prop} (ha : EJ ρ K ta δ k1 (fun d => ∃ ds, d = .lst ds ∧ PL ds)) (hb : ∀ ds, PL ds → EJ ρ K tb δ k2 (fun d => ∃ i, d = .int i ∧ 0 ≤ i ∧ i < ds.length)) (hp : ∀ ds d, PL ds → d ∈ ds → P d) : EJ ρ K (tOp (rIxL K) ta tb) δ (k1 + k2) P := .mk fun G0 H0 G H σ m Q w hm q =>
  (ha).run G0 H0 G H σ m _ w (by omega) fun d v G1 H1 m1 px w1 g1 l1 ax => by
    obtain ⟨ds, rfl, p1⟩ := px
    refine (hb ds p1).run G0 H0 G1 H1 σ m1 _ w1 (by omega) fun d v G2 H2 m2 px w2 g2 l2 bx => ?_
    obtain ⟨i, rfl, i0, i1⟩ := px
    cases bx
    have ax2 := ax.mono g2.gg
    cases ax2 with
    | @lst p xs _ hp' hpl =>
      have hi : i.toNat < ds.length := by omega
      obtain ⟨x, hx, hax⟩ := hpl.get (List.getElem?_eq_getElem hi)
      refine ⟨p, xs, i, x, rfl, rfl, .inl (.inl (w2.gd.sub _ _ hp')), ?_, q _ x G2 H2 m2 (hp ds _ p1 (List.getElem_mem hi)) w2 (Gd.trans w1.pot g1 g2) (by omega) hax⟩
      have e : i = (i.toNat : Int) := by omega
      rw [e]
      exact atI_nat hx
/-! slices of lists -/
theorem AtL.cut {G : Hp} {vs : List V} {ds : List D} (h : AtL K G vs ds) (lo hi : Option Int) : AtL K G (cutV vs lo hi) ((ds.drop (HT.sIx ds.length 0 lo)).take (HT.sIx ds.length ds.length hi - HT.sIx ds.length 0 lo)) := by
  unfold cutV
  rw [h.len]
  exact (h.drop _).take _
def cutD (ds : List D) (lo hi : Option Int) : List D := (ds.drop (HT.sIx ds.length 0 lo)).take (HT.sIx ds.length ds.length hi - HT.sIx ds.length 0 lo)
/-- a slice's part -/
structure EO (ρ : Rh) (K : PySem.W.Frag) (tl : TO) (δ : Dl) (o : Option Int)  : Prop where
  run : ∀ (G0 H0 G H : Hp) (σ : L2.St) (m : Nat) (Q : Option Int → Hp → Prop), Wf ρ K G0 H0 G H σ δ m → m ≤ Mx →
  (∀ G' H' m', Wf ρ K G0 H0 G' H' σ δ m' → Gd ρ G H G' H' → m' ≤ m → Q o H') → tl σ H Q
theorem eo_none : EO ρ K tNoPart δ none := .mk fun G0 H0 G H σ m Q w hm q => q G H m w (Gd.refl w.gd.sub) (Nat.le_refl _)
theorem eo_some {i : Int} (h : ED ρ K te δ (.int i)) : EO ρ K (tPart te) δ (some i) := .mk fun G0 H0 G H σ m Q w hm q =>
  (h).run G0 H0 G H σ m _ w hm fun d v G' H' m' pd w' g l x => by
    subst pd
    cases x
    exact ⟨i, rfl, q G' H' m' w' g l⟩
theorem en_sl {ds : List D} {tl th : TO} {lo hi : Option Int} (h : ED ρ K te δ (.lst ds)) (hl : EO ρ K tl δ lo) (hh : EO ρ K th δ hi) : EN ρ K (tSl (rSlL K) te tl th) δ 0 (· = .lst (cutD ds lo hi)) := .mk fun G0 H0 G H σ m Q w hm q =>
  (h).run G0 H0 G H σ m _ w hm fun d v G1 H1 m1 px w1 g1 l1 ax => by
    subst px
    refine (hl).run G0 H0 G1 H1 σ m1 _ w1 (by omega) fun G2 H2 m2 w2 g2 l2 => ?_
    refine (hh).run G0 H0 G2 H2 σ m2 _ w2 (by omega) fun G3 H3 m3 w3 g3 l3 => ?_
    have ax2 := (ax.mono g2.gg).mono g3.gg
    cases ax2 with
    | @lst p xs _ hp hpl =>
      exact ⟨p, xs, rfl, .inl (.inl (w3.gd.sub _ _ hp)), en_fin w w3 (Gd.trans w2.pot (Gd.trans w1.pot g1 g2) g3) (.lst (hpl.cut lo hi)) fun p o G' H' m' w' g' l' => q _ p o G' H' m' rfl w' g' (by omega)⟩
theorem sj_run {G0 H0 G H : Hp} {σ : L2.St} {m : Nat} {DD : Ends} (h : SJ ρ K E (tSeq t u) δ k PO) (w : Wf ρ K G0 H0 G H σ δ m) (hm : m + k ≤ Mx) (q : ∀ o, PO o → EndsOk ρ K G0 H0 DD E (m + k) o) : tSeq t u DD σ H := h.run G0 H0 G H σ m DD w hm q
theorem sj_le {k' : Nat} (h : SJ ρ K E ts δ k PO) (hk : k ≤ k') : SJ ρ K E ts δ k' PO := h.mono hk fun _ p => p
theorem ej_ixE {ds : List D} {i : Int} (ha : ED ρ K ta δ (.lst ds)) (hb : ED ρ K tb δ (.int i)) (h0 : 0 ≤ i) (h1 : i < ds.length) : EJ ρ K (tOp (rIxL K) ta tb) δ 0 (fun d => d ∈ ds) :=
  ej_ixL (PL := (· = ds)) (PI := fun _ => True) (ha.mono (Nat.le_refl _) fun d e => ⟨ds, e, rfl⟩) (fun es e => hb.mono (Nat.le_refl _) fun d e2 => ⟨i, e2, h0, by subst e; exact h1⟩) fun es d e hd => by subst e; exact hd
theorem ej_modE {i j : Int} (ha : ED ρ K ta δ (.int i)) (hb : ED ρ K tb δ (.int j)) (h : 0 < j) : EJ ρ K (tOp (rI (fun _ j => 0 < j) fun i j => .int (i % j)) ta tb) δ 0 (fun d => ∃ r, d = .int r ∧ 0 ≤ r ∧ r < j) :=
  (ed_op ha hb (rj_I h)).mono (Nat.le_refl _) fun d e => ⟨_, e, Int.emod_nonneg _ (by omega), Int.emod_lt_of_pos _ h⟩
/-- some[_law_take(pot, len(some))], over a list or a text -/
theorem rj_ix_lst {ds : List D} {i : Int} {d : D} (e : atI ds i = some d) : RJ K (rIx K) (.lst ds) (.int i) d := .mk fun x y G H Q hx hy s q => .inl ((rj_ixL e).run x y G H Q hx hy s q)
theorem rj_ix_str {z : Str} {i : Int} {c : Nat} (hz : z.length ≤ 1000000) (e : atI z.cps.toList i = some c) : RJ K (rIx K) (.str z) (.int i) (.str ⟨#[c]⟩) := .mk fun x y G H Q hx hy s q => .inr (.inr ((rj_ixS hz e).run x y G H Q hx hy s q))
abbrev rLenA (K : PySem.W.Frag) : List V → Hp → VK → Prop := fun xs H Q => ∃ x n, xs = [x] ∧ LenV K x H n ∧ Q (.int n) H
theorem cj_lenA {ds : List D} : CJ K (rLenA K) [.lst ds] (.int (ds.length : Nat)) := .mk fun xs G H Q hx s q => by
  cases hx with
  | cons h r =>
    cases r
    cases h with
    | @lst p ys _ ha hl => exact ⟨_, _, rfl, .inl ⟨ys, .inl (.inl (s _ _ ha)), rfl⟩, q _ G H (Gd.refl s) (by rw [hl.len]; exact .int _)⟩
theorem cj_lenAS {z : Str} (hz : z.length ≤ 1000000) : CJ K (rLenA K) [.str z] (.int (z.length : Nat)) := .mk fun xs G H Q hx s q => by
  cases hx with
  | cons h r =>
    cases r
    cases h
    exact ⟨_, _, rfl, ⟨Nat.le_trans hz (by decide), rfl⟩, q _ G H (Gd.refl s) (.int _)⟩
theorem cal_of {P : Program} {w : World} {mg : Str → Option Value} {base : Heap} {k : Nat} {f : Addr} {fd : FuncData} {ps : List Str} {sp : Sp} {x : Str} (G : FnOk P w K mg base CX0 k f fd ps sp) (hm : mg x = some (.ref f)) (kp : PySem.W.keepIn K (.ref f) = true) (b : Binds K fd ps []) : C8.Cal P w K mg base k x sp [] :=
  ⟨f, fd, ps, [], G, hm, kp, b, .nil⟩
theorem Gd.potUpd {a : Addr} {G H : Hp} {o : HO} (h : Same G H) (n : G a = none) (ho : Nt o := by (intro _ z; cases z)) : Gd (.some a) G H G (L2.upd H a o) :=
  ⟨fun b u z e => by rw [upd_ne (fun y => z (by rw [y]; exact .inl rfl))]; exact e, Same.refl _, fun b u e => by rw [upd_ne (ne_of_none e n)]; exact h b u e, fun b e => .inl e, fun h => h.upd ho⟩
theorem atI_of {α : Type} {xs : List α} {z : Int} {j : Nat} {v : α} (e : z = (j : Int)) (h : xs[j]? = some v) : atI xs z = some v := by
  rw [e]; exact atI_nat h
theorem asg_int {σ : L2.St} {H : Hp} {DD : Ends} (hu : ∀ (z : Int) (H1 : Hp), Same H H1 → u DD (σ.set i (some (.int z))) H1) (ht : ∀ Q : VK, (∀ (z : Int) (H1 : Hp), Same H H1 → Q (.int z) H1) → te σ H Q) : tSeq (tAsg te (gName i)) u DD σ H := ht _ fun z H1 s => hu z H1 s
theorem asg_intT {σ : L2.St} {H : Hp} {DD : Ends} (hu : ∀ (z : Int) (H1 : Hp), Same H H1 → (OnlyT H → OnlyT H1) → u DD (σ.set i (some (.int z))) H1) (ht : ∀ Q : VK, (∀ (z : Int) (H1 : Hp), Same H H1 → (OnlyT H → OnlyT H1) → Q (.int z) H1) → te σ H Q) : tSeq (tAsg te (gName i)) u DD σ H := ht _ fun z H1 s o => hu z H1 s o
theorem ej_ex (h : ED ρ K te δ d) (hp : P d) : EJ ρ K te δ 0 P := h.mono (Nat.le_refl _) fun x e => by subst e; exact hp
theorem cutV_map {α : Type} (f : α → V) (ns : List α) (lo hi : Option Int) : cutV (ns.map f) lo hi = ((ns.drop (HT.sIx ns.length 0 lo)).take (HT.sIx ns.length ns.length hi - HT.sIx ns.length 0 lo)).map f := by
  unfold cutV
  rw [List.length_map, List.map_take, List.map_drop]
end
end DN

/-! ground 5: defs that are run where no repr is under way; repr of data -/
namespace DN
open PySem PySem.Spec PyProof.Rows L2
variable [Tb]

/-- no repr of a list, tuple, dict is under way -/
abbrev Still (A : Around) : Prop := A.guards = some []
/-- a def's promise where no repr is under way -/
structure FnG (P : Program) (w : World) (K : PySem.W.Frag) (mg : Str → Option Value) (base : Heap) (CX : CXT) (k : Nat) (f : Addr) (fd : FuncData) (ps : List Str) (sp : Sp) : Prop where
  len : ∀ vs H Q E, sp vs H Q E → vs.length = ps.length
  go : ∀ (A : Around) (outer : List Env) (s : Shared) (H : Hp) (args : Args) (us : List Value) (vs : List V) (Q : VK) (E : XK), Still A → Room k A → Env0 P w K mg base A outer s H → BindsTo s fd args (ps.zip us) → Vals vs us → sp vs H Q E →
    codeAny (model P w) A (.call (.ref f) args)
      (CR CX outer P w H s Q E) s
theorem FnG.of {P : Program} {w : World} {K : PySem.W.Frag} {mg : Str → Option Value} {base : Heap} {CX : CXT} {k : Nat} {f : Addr} {fd : FuncData} {ps : List Str} {sp : Sp} (F : FnOk P w K mg base CX k f fd ps sp) : FnG P w K mg base CX k f fd ps sp :=
  ⟨F.len, fun A outer s H args us vs Q E _ hr e b v h => F.run A outer s H args us vs Q E hr e b v h⟩
section
variable {P : Program} {w : World} {K : PySem.W.Frag} {mg : Str → Option Value} {base : Heap} {CX : CXT}
/-- a def's promise by its body, where no repr is under way -/
theorem FnG.mkC {x qual : Str} {st : Stmt} {f : Addr} {fd : FuncData} {N ps : List Str} {k : Nat} {sp : Sp} (F : Fun K x qual st f fd) (S : FnScope N ps (defScope st)) (len : ∀ vs H Q E, sp vs H Q E → vs.length = ps.length)
    (body : ∀ (cdv : Value) (_ : fd.code = cdv) (A : Around) (outer : List Env) (s : Shared) (H : Hp) (vs : List V) (Q : VK) (E : XK), Still (A.deeper (envOfC qual (defScope st) s.heap.objs.size f cdv)) → Room k (A.deeper (envOfC qual (defScope st) s.heap.objs.size f cdv)) → sp vs H Q E →
      ∃ t, PSs (cxOf CX P w K mg base N qual (defScope st) f cdv A outer s H E).nox (defBody st) t ∧ t { nx := fun _ H' => Q .non H', rt := Q } (L2.start N vs) H) : FnG P w K mg base CX (k + 1) f fd ps sp := by
  obtain ⟨oc, od, kV, doc, pm, an, cdv, ct, osl, e, look, code⟩ := F.ex
  subst e
  refine { len := len, go := ?_ }
  intro A outer s H args us vs Q E still room e0 bind rel hs
  have n1 : vs.length = ps.length := len _ _ _ _ hs
  have inK : K.In s.heap :=
    e0.mod.kin.keeps fun b o z => (e0.bs b o z).1
  have noLim : s.heap.NoLimit :=
    e0.mod.nolimit.keeps fun b o z => (e0.bs b o z).1
  refine codeAny_call_function room.depth (inK _ _ look) rfl S.co S.gen rfl
    (PySem.W.codeRec_of inK code) (bind _ _ _ _ ?_)
  refine wpAny_newFunctionEnv_cells S.kind (fun p hp => ?_) fun env hEnv s1 st1 => ?_
  · rcases S.par p.1 (List.of_mem_zip (a := p.1) (b := p.2) hp).1 with y | y
    · exact Or.inl y
    · exact Or.inr ⟨y, PySem.W.cellsFrom_some _ _ _ (Or.inl y)⟩
  · subst hEnv
    refine ⟨noLim.keeps st1.toInCall.keep, codeAny_func ?_⟩
    obtain ⟨t, der, rd⟩ := body cdv rfl A outer s H vs Q E still (room.deeper _) hs
    have inv0 := inv_start (CX := CX) (E := E) S room.hd e0 n1 rel st1
    refine wpAny_mono (der.nox.run [] s1 (L2.start N vs) H _ inv0 rd) ?_ (fun _ _ z => z)
    intro fl s' h
    match fl, h with
    | .ret u, ⟨v, _, H', J, rv, q⟩ => exact (⟨v, H', J.os, J.bare, J.base, J.hok, rv, q⟩ : CE outer P w H s Q u s')
    | .next, ⟨_, H', J, q⟩ => exact (⟨V.non, H', J.os, J.bare, J.base, J.hok, rfl, q⟩ : CE outer P w H s Q Value.none s')
    | .brk, ⟨_, _, _, q⟩ => exact absurd q (fun z => z)
    | .cont, ⟨_, _, _, q⟩ => exact absurd q (fun z => z)
theorem FnG.mk_ {x qual : Str} {st : Stmt} {f : Addr} {fd : FuncData} {N ps : List Str} {k : Nat} {sp : Sp} (F : Fun K x qual st f fd) (S : FnScope N ps (defScope st)) (len : ∀ vs H Q E, sp vs H Q E → vs.length = ps.length)
    (body : ∀ (cdv : Value) (A : Around) (outer : List Env) (s : Shared) (H : Hp) (vs : List V) (Q : VK) (E : XK), Still (A.deeper (envOfC qual (defScope st) s.heap.objs.size f cdv)) → Room k (A.deeper (envOfC qual (defScope st) s.heap.objs.size f cdv)) → sp vs H Q E →
      ∃ t, PSs (cxOf CX P w K mg base N qual (defScope st) f cdv A outer s H E).nox (defBody st) t ∧ t { nx := fun _ H' => Q .non H', rt := Q } (L2.start N vs) H) : FnG P w K mg base CX (k + 1) f fd ps sp := FnG.mkC F S len fun cdv _ => body cdv
end
section
variable {X : Cx} {CX : CXT} {k : Nat} {f : Addr} {fd : FuncData} {ps : List Str} {sp : Sp} {E : XK} {x : Str} {e : Expr} {es : List Expr} {p pos : Pos} {t : TA}
theorem pe_callG (F : FnG X.prog X.w X.K X.mg X.base CX k f fd ps sp) (hs : Still X.A) (room : Room k X.A) (hg : Gl X x) (hm : X.mg x = some (.ref f)) (kp : PySem.W.keepIn X.K (.ref f) = true) (b : Binds X.K fd ps []) (hx : Passes CX X E) (ha : PA X (e :: es) t)
    (hdb : (x == ("__debug__" : Str)) = false := by decide) (h1 : starEach (e :: es) X.env = (false, eval e X.env) :: starEach es X.env := by rfl) (h2 : (backTo pos (starEach es X.env)).any (·.1) = false := by rfl) : PE X (.Call (.Name x p) (e :: es) [] pos) (tCall sp [] E t) := by
  constructor
  intro pins s σ H Q I h
  refine wpAny_Call_Name_kw (ld_glob I hg hm ?_ hdb)
  refine PySem.W.callWith_K (h₀ := X.base) I.ok.mod.kin kp
    (thn (ha.run pos pins s σ H _ I h) fun us s1 ⟨vs, H1, I1, r, q⟩ => ⟨I1.kIn, ?_⟩) h1 h2
  have q' : sp vs H1 Q E := by
    have z : sp (vs ++ []) H1 Q E := q
    rwa [List.append_nil] at z
  have n1 : us.length = ps.length := by
    rw [← Paired.length r, F.len _ _ _ _ q']
  have bt := b s1 us I1.kIn (by rw [List.append_nil]; exact n1)
  rw [List.append_nil] at bt
  refine wpAny_call (codeAny_mono (F.go X.A X.stack s1 H1 ⟨us, []⟩ us vs Q E hs room I1.env0 bt r q') ?_)
  intro r2 s' z
  match r2, z with
  | .error er, z => exact hx pins σ H1 s1 er s' I1 z
  | .ok (.ret u), z => exact I1.after z
  | .ok .next, z => exact absurd z (fun q => q)
  | .ok .brk, z => exact absurd z (fun q => q)
  | .ok .cont, z => exact absurd z (fun q => q)
end
/-- a def of the module, by its name -/
structure CalG (P : Program) (w : World) (K : PySem.W.Frag) (mg : Str → Option Value) (base : Heap) (CX : CXT) (k : Nat) (x : Str) (sp : Sp) : Prop where
  ex : ∃ (f : Addr) (fd : FuncData) (ps : List Str), FnG P w K mg base CX k f fd ps sp ∧ mg x = some (.ref f) ∧ PySem.W.keepIn K (.ref f) = true ∧ Binds K fd ps []
theorem pe_g {X : Cx} {CX : CXT} {k j : Nat} {sp : Sp} {E : XK} {x : Str} {e : Expr} {es : List Expr} {p pos : Pos} {t : TA} (c : CalG X.prog X.w X.K X.mg X.base CX k x sp) (hs : Still X.A) (room : Room j X.A) (hk : k ≤ j) (hx : Passes CX X E) (hg : Gl X x) (ha : PA X (e :: es) t)
    (hdb : (x == ("__debug__" : Str)) = false := by decide) (h1 : starEach (e :: es) X.env = (false, eval e X.env) :: starEach es X.env := by rfl) (h2 : (backTo pos (starEach es X.env)).any (·.1) = false := by rfl) : PE X (.Call (.Name x p) (e :: es) [] pos) (tCall sp [] E t) := by
  obtain ⟨f, fd, ps, F, hm, kp, b⟩ := c.ex
  exact pe_callG F hs (room.mono hk) hg hm kp b hx ha hdb h1 h2

/-! ### the law's own call -/
section
variable {P : Program} {w : World} {K : PySem.W.Frag} {mg mb : Str → Option Value} {k : Nat} {fa a : Addr} {fd : FuncData} {x : Str} {sp : Sp} {s₁ : Shared} {vs : List Value} {ns : List Int}
/-- what is wanted of the law's call -/
abbrev Told (s₁ : Shared) : Result → Shared → Prop := fun r s' => r = .ok (.ret (.bool true)) ∧ OldK s₁.heap s'.heap ∧ s'.os = s₁.os ∧ AllBare s'.gens
theorem law_from (H : Hp) (F : ∀ base : Heap, K.In base → base.Ns mainGlobals mg → FnG P w K mg base CX0 k fa fd [x] sp) (bind : ∀ (s : Shared) (u : Value), BindsTo s fd ⟨[u], []⟩ [(x, u)]) (room : Room k callerA)
    (inK : K.In s₁.heap) (nsG : s₁.heap.Ns mainGlobals mg) (nsB : s₁.heap.Ns builtinsNs mb) (bb : ∀ x : Str, x ≠ "__name__" → mb x = bootBuiltins x) (lim : s₁.heap.NoLimit) (gens : s₁.gens = #[])
    (only : ∀ b, H b = none ∨ ∃ o xs, H b = some (.frz o (.lst xs))) (hok : HOk P w H s₁.heap) (dicts : ∀ b o es ep, s₁.heap.get? b = some o → o.data = .dict es ep → H b = none) (offK : ∀ b o, K.lookup b = some o → H b = none)
    (hs : sp [.ref a] H (fun v _ => v = .bl true) (fun _ _ _ => False)) : codeAny (model P w) callerA (.call (.ref fa) ⟨[.ref a], []⟩) (Told s₁) s₁ := by
  have keepNs : ∀ {b : Addr} {m : Str → Option Value}, s₁.heap.Ns b m → (hidT s₁.heap H).Ns b m := by
    rintro b m ⟨o, es, ep, e, d, r⟩
    exact ⟨o, es, ep, hidT_get e (dicts b o es ep e d), d, r⟩
  have inB : K.In (hidT s₁.heap H) := fun b o e => hidT_get (inK b o e) (offK b o e)
  have mod : Mod K mg (hidT s₁.heap H) := by
    obtain ⟨mc, c1, c2⟩ := lim
    exact ⟨inB, keepNs nsG, ⟨mb, keepNs nsB, bb⟩, ⟨mc, keepNs c1, c2⟩⟩
  have e0 : Env0 P w K mg (hidT s₁.heap H) callerA [] s₁ H :=
    { frames := rfl, mod := mod, bs := fun b o e => of_hidT e, bsz := Nat.le_of_eq (hidT_size _ _), funs := trivial, frf := fun b hb => (List.not_mem_nil hb).elim, hok := hok, bare := .of_eq gens }
  have run := (F _ inB (keepNs nsG)).go callerA [] s₁ H ⟨[.ref a], []⟩ [.ref a] [.ref a] _ _ rfl room e0
    (bind s₁ (.ref a)) (.cons rfl .nil) hs
  refine codeAny_mono run fun r s' z => ?_
  match r, z with
  | .error e, z => exact absurd z (fun q => q)
  | .ok .next, z => exact absurd z (fun q => q)
  | .ok .brk, z => exact absurd z (fun q => q)
  | .ok .cont, z => exact absurd z (fun q => q)
  | .ok (.ret u), ⟨v, H', os, bare, un, ok', rel, q⟩ =>
    have ev : v = .bl true := q
    subst ev
    have eu : u = Value.bool true := rel
    subst eu
    refine ⟨rfl, .of_keep fun b o e => ?_, os, bare⟩
    rcases only b with n | ⟨ob, xs, n⟩
    · exact un.keep b o e n List.not_mem_nil List.not_mem_nil
    · obtain ⟨z1, _⟩ := hok b _ n
      obtain ⟨z2, _⟩ := ok' b _ (un.frzs b ob _ n)
      rw [e] at z1
      rw [z1]
      exact z2
theorem law_goG (F : ∀ base : Heap, K.In base → base.Ns mainGlobals mg → FnG P w K mg base CX0 k fa fd [x] sp) (bind : ∀ (s : Shared) (u : Value), BindsTo s fd ⟨[u], []⟩ [(x, u)]) (room : Room k callerA)
    (inK : K.In s₁.heap) (nsG : s₁.heap.Ns mainGlobals mg) (nsB : s₁.heap.Ns builtinsNs mb) (bb : ∀ x : Str, x ≠ "__name__" → mb x = bootBuiltins x) (lim : s₁.heap.NoLimit) (gens : s₁.gens = #[])
    (ha : s₁.heap.get? a = some { cls := .type "list", data := .seq vs.toArray }) (hi : IntsAre vs ns) (hl : ns.length ≤ sizeLine)
    (hsp : ∀ H : Hp, SqL K H a (ns.map V.int) → sp [.ref a] H (fun v _ => v = .bl true) fun _ _ _ => False) : codeAny (model P w) callerA (.call (.ref fa) ⟨[.ref a], []⟩) (Told s₁) s₁ := by
  have rv := vals_ints hi
  have ln : vs.length = ns.length := hi.length
  by_cases hk : ∃ o, K.lookup a = some o
  · obtain ⟨o, ho⟩ := hk
    have e := inK a o ho
    rw [ha] at e
    have e2 := Option.some.inj e
    subst e2
    refine law_from (fun _ => none) F bind room inK nsG nsB bb lim gens (fun _ => .inl rfl) (fun _ _ z => nomatch z) (fun _ _ _ _ _ _ => rfl) (fun _ _ _ => rfl) (hsp _ (.inr ?_))
    exact ⟨_, vs.toArray, _, ho, rfl, rfl, rfl, by rw [List.size_toArray, ln]; exact hl, by simpa using rv⟩
  · have hk' : K.lookup a = none := by
      cases z : K.lookup a with
      | none => rfl
      | some o => exact absurd ⟨o, z⟩ hk
    let H : Hp := upd (fun _ => none) a (.frz { cls := .type "list", data := .seq vs.toArray } (.lst (ns.map V.int)))
    have Ha : H a = some (.frz { cls := .type "list", data := .seq vs.toArray } (.lst (ns.map V.int))) := upd_same
    have Hn : ∀ b, b ≠ a → H b = none := fun b n => upd_ne n
    refine law_from H F bind room inK nsG nsB bb lim gens (fun b => ?_) (fun b u z => ?_) (fun b o es ep e d => ?_) (fun b o e => ?_) (hsp H (.inl (.inr ⟨_, Ha⟩)))
    · by_cases n : b = a
      · subst n; exact .inr ⟨_, _, Ha⟩
      · exact .inl (Hn b n)
    · by_cases n : b = a
      · subst n
        rw [Ha] at z
        cases z
        exact ⟨ha, by rw [List.length_map]; exact hl, vs, _, rv, ha⟩
      · rw [Hn b n] at z; cases z
    · by_cases n : b = a
      · subst n
        rw [ha] at e
        cases e
        cases d
      · exact Hn b n
    · by_cases n : b = a
      · subst n
        rw [hk'] at e; cases e
      · exact Hn b n
end
/-- the goal that the head leaves, from the law's promise -/
theorem walkG {l : PySem.W.OpenLaw} {n k : Nat} {q : Program} {loose : List Str} {XP : (Str → Option Value) → Heap → Prop} {YP : World → Heap → Prop} {d : DefRec} {KK : Params → PySem.W.Frag} {sp : World → Sp} {x : Str}
    (hn : l.most = some n) (hn2 : n ≤ sizeLine) (hdf : d.params.defaults = []) (hr : Room k callerA) (hY : ∀ (w : World) (h : Heap), YP w h → (KK w.params).In h)
    (F : ∀ (w : World) (mg : Str → Option Value) (fa : Addr) (h : Heap), (KK w.params).In h → h.Ns mainGlobals mg → mg d.name = some (.ref fa) →
      ∃ fd : FuncData, (∀ (s : Shared) (u : Value), BindsTo s fd ⟨[u], []⟩ [(x, u)]) ∧ ∀ base : Heap, (KK w.params).In base → base.Ns mainGlobals mg → FnG l.prog w (KK w.params) mg base CX0 k fa fd [x] (sp w))
    (hsp : ∀ (w : World) (H : Hp) (a : Addr) (ns : List Int), ns.length ≤ n → SqL (KK w.params) H a (ns.map V.int) → sp w [.ref a] H (fun v _ => v = .bl true) fun _ _ _ => False) :
    PySem.W.WalkO q loose XP YP l.row.toRowW d [] (fun f vs => PySem.call f vs) := by
  refine Att.attach_call hn hdf ?_
  intro w s₀ s₁ mg mb fa o pm cd doc a vs ns G Y ho hd hcd hmg hobj hints hlen hg
  obtain ⟨fd, hb, hF⟩ := F w mg fa _ (hY w _ Y) G.T.g hmg
  exact law_goG hF hb hr (hY w _ Y) G.T.g G.T.b G.T.builtins G.T.nolimit hg hobj hints (Nat.le_trans hlen hn2) (fun H hS => hsp w H a ns hlen hS)
end DN

/-! ground 6: repr of data -/
namespace DN
open PySem PySem.Spec PyProof.Rows L2
variable [Tb]

def pyKey : Key → PyData
  | .inl i => .int i
  | .inr s => .str s
mutual
def py : D → PyData
  | .non => .none
  | .bl b => .bool b
  | .int i => .int i
  | .str s => .str s
  | .tup l => .tuple (pyL l)
  | .lst l => .list (pyL l)
  | .dct l => .dict (pyK l)
  | .ins _ _ => .none
  | .exc _ _ => .none
  | .opq _ => .none
  | .scr _ => .none
  | .cau _ _ _ _ => .none
def pyL : List D → List PyData
  | [] => []
  | d :: r => py d :: pyL r
def pyK : List (Key × D) → List (PyData × PyData)
  | [] => []
  | (k, d) :: r => (pyKey k, py d) :: pyK r
end
mutual
/-- data alone, and lists in no dict -/
def plainD : D → Bool
  | .tup l => plainL l
  | .lst l => plainL l
  | .dct l => plainK l
  | .ins _ _ => false
  | .exc _ _ => false
  | .opq _ => false
  | .scr _ => false
  | .cau _ _ _ _ => false
  | _ => true
def plainL : List D → Bool
  | [] => true
  | d :: r => plainD d && plainL r
def plainK : List (Key × D) → Bool
  | [] => true
  | (_, d) :: r => plainD d && plainK r
end
mutual
def listFree : D → Bool
  | .tup l => listFreeL l
  | .lst _ => false
  | .dct l => listFreeK l
  | _ => true
def listFreeL : List D → Bool
  | [] => true
  | d :: r => listFree d && listFreeL r
def listFreeK : List (Key × D) → Bool
  | [] => true
  | (_, d) :: r => listFree d && listFreeK r
end
theorem pyK_keys : ∀ l : List (Key × D), (pyK l).map (·.1) = l.map fun p => pyKey p.1
  | [] => rfl
  | (k, d) :: r => by simp [pyK, pyK_keys r]
theorem pyK_vals : ∀ l : List (Key × D), (pyK l).map (·.2) = l.map fun p => py p.2
  | [] => rfl
  | (k, d) :: r => by simp [pyK, pyK_vals r]

section
variable {X : Cx} {pins : List (Addr × Obj)} {σ : L2.St} {H : Hp} {s : Shared}
abbrev RdV (h : Heap) (u : Value) (d : D) : Prop := ∃ as, Reads h u (py d) as ∧ (listFree d = true → sysModules ∉ as)
theorem at_reads (I : Inv X pins σ H s) {v : V} {d : D} (h : At X.K H v d) : plainD d = true → ∀ u, RelV v u → RdV s.heap u d :=
  At.rec (motive_1 := fun v d _ => plainD d = true → ∀ u, RelV v u → RdV s.heap u d)
    (motive_2 := fun vs ds _ => plainL ds = true → ∀ us, Vals vs us → ∃ as, ReadsAll s.heap us (pyL ds) as ∧ (listFreeL ds = true → sysModules ∉ as))
    (motive_3 := fun vs ds _ => plainK ds = true → ∀ (es : List DictEntry) (ws : List (Key × Value)), KV vs ws → Pairs (mixKind X.prog X.w) es ws → ∃ as bs, ReadsAll s.heap (es.map (·.key)) ((pyK ds).map (·.1)) as ∧ as = [] ∧ ReadsAll s.heap (es.map (·.val)) ((pyK ds).map (·.2)) bs ∧ (listFreeK ds = true → sysModules ∉ bs))
    (motive_4 := fun _ _ _ => True)
    (fun _ u r => by cases r; exact ⟨[], .none, fun _ => List.not_mem_nil⟩)
    (fun b _ u r => by cases r; exact ⟨[], .bool b, fun _ => List.not_mem_nil⟩)
    (fun i _ u r => by obtain ⟨t, rfl⟩ := r; exact ⟨[], .int i t, fun _ => List.not_mem_nil⟩)
    (fun x _ u r => by obtain ⟨t, rfl⟩ := r; exact ⟨[], .str x t, fun _ => List.not_mem_nil⟩)
    (fun {a xs ds} hs _ ih hp u r => by
      cases r
      obtain ⟨its, rv, ⟨o, ho, hc, n, hd⟩, _⟩ := I.tuple hs
      obtain ⟨as, hr, hl⟩ := ih (by simpa [plainD] using hp) its rv
      exact ⟨as, by simpa [py] using Reads.tuple ho hc hd hr, fun q => hl (by simpa [listFree] using q)⟩)
    (fun {a xs ds} hs _ ih hp u r => by
      cases r
      obtain ⟨its, rv, ⟨o, n, ho, hc, _, hd⟩, _⟩ := I.list (.inl (.inl hs))
      obtain ⟨as, hr, _⟩ := ih (by simpa [plainD] using hp) its rv
      exact ⟨a :: as, by simpa [py] using Reads.list ho hc hd hr, fun q => by simp [listFree] at q⟩)
    (fun {a kvs es} hs _ ih hp u r => by
      cases r
      obtain ⟨_, hsys, ws, kv, o, ents, ep, ho, ex, hd, _, pr, _⟩ := I.hok a _ hs
      obtain ⟨as, bs, h1, e1, h2, h3⟩ := ih (by simpa [plainD] using hp) ents.toList ws kv pr
      subst e1
      refine ⟨a :: [] ++ bs, by simpa [py] using Reads.dict ho ex.1 hd h1 h2, fun q => ?_⟩
      have n1 : sysModules ≠ a := fun z => by
        rw [← z] at hsys
        simp at hsys
      have n2 := h3 (by simpa [listFree] using q)
      simp only [List.cons_append, List.nil_append, List.mem_cons, not_or]
      exact ⟨n1, n2⟩)
    (fun {a C dx fs es} _ _ _ hp => by simp [plainD] at hp)
    (fun {a C dx v d} _ _ _ _ hp => by simp [plainD] at hp)
    (fun v hp => by simp [plainD] at hp)
    (fun {a ns} _ hp => by simp [plainD] at hp)
    (fun {a p C v d} _ _ _ hp => by simp [plainD] at hp)
    (fun _ us r => by cases r; exact ⟨[], .nil, fun _ => List.not_mem_nil⟩)
    (fun {v vs d ds} _ _ i1 i2 hp us r => by
      have hp' : plainD d = true ∧ plainL ds = true := by simpa [plainL] using hp
      cases r with
      | cons r1 r2 =>
        obtain ⟨as, h1, l1⟩ := i1 hp'.1 _ r1
        obtain ⟨bs, h2, l2⟩ := i2 hp'.2 _ r2
        refine ⟨as ++ bs, .cons h1 h2, fun q => ?_⟩
        have q' : listFree d = true ∧ listFreeL ds = true := by simpa [listFreeL] using q
        rw [List.mem_append]
        exact fun z => z.elim (l1 q'.1) (l2 q'.2))
    (fun _ es ws kv pr => by
      cases kv
      cases pr
      exact ⟨[], [], .nil, rfl, .nil, fun _ => List.not_mem_nil⟩)
    (fun {k v vs d ds} _ _ i1 i2 hp es ws kv pr => by
      have hp' : plainD d = true ∧ plainK ds = true := by simpa [plainK] using hp
      cases kv with
      | @cons _ q _ _ r1 r2 =>
        cases pr with
        | @cons e kw es kws p1 p2 p3 =>
          obtain ⟨as, bs, h1, e1, h2, l2⟩ := i2 hp'.2 _ _ r2 p3
          subst e1
          obtain ⟨cs, h3, l3⟩ := i1 hp'.1 _ r1.2
          rw [← p2] at h3
          have ek : q.1 = k := r1.1.symm
          rw [ek] at p1
          refine ⟨[] ++ [], cs ++ bs, ?_, rfl, .cons h3 h2, fun z => ?_⟩
          · refine .cons ?_ h1
            rcases keyIs_shape (k := k) (v := e.key) p1 with ⟨i, t, rfl, e2⟩ | ⟨x, t, rfl, e2⟩
            · show Reads s.heap e.key (.int i) []
              rw [e2]; exact .int i t
            · show Reads s.heap e.key (.str x) []
              rw [e2]; exact .str x t
          · have z' : listFree d = true ∧ listFreeK ds = true := by simpa [listFreeK] using z
            rw [List.mem_append]
            exact fun y => y.elim (l3 z'.1) (l2 z'.2))
    trivial (fun _ _ _ _ => trivial) h
end

/-- what repr tells of a datum -/
def showD (d : D) : Str := (py d).shown
/-- repr of such data is told -/
structure ShowOk (d : D) : Prop where
  plain : plainD d = true
  nums : (py d).showable = true
  dicts : (py d).hasDict = true → listFree d = true
  deep : (py d).depth ≤ 60
  size : (showD d).length ≤ sizeLine
def rRepr (K : PySem.W.Frag) : List V → Hp → VK → Prop := fun xs H Q => ∃ x d, xs = [x] ∧ At K H x d ∧ ShowOk d ∧ Q (.str (showD d)) H
theorem call_repr {X : Cx} (hs : Still X.A) (hu : X.A.units + 64 < cLine) : CallR X (.builtin "repr") (rRepr X.K) := by
  intro pins s σ H xs us Q I r h
  obtain ⟨x, d, rfl, hx, ok, q⟩ := h
  obtain ⟨u, rfl, ru⟩ := vals1 r
  obtain ⟨as, rd, hl⟩ := at_reads I hx ok.plain u ru
  have hsz := ok.size
  have hd := ok.deep
  unfold showD at hsz q
  have fin : ∀ (h' : Heap) (t : Tok) (tk : Nat), (∀ b o, s.heap.get? b = some o → h'.get? b = some o) → EP X pins σ Q (.str (py d).shown t) { s with heap := h', toks := tk } :=
    fun h' t tk hk => ⟨.str _, H, I.kept hk, ⟨t, rfl⟩, q⟩
  cases hp : py d with
  | none =>
    rw [hp] at rd fin
    cases rd
    exact PySem.P.repr_of_none (fin _ _ _ fun _ _ e => e)
  | bool b =>
    rw [hp] at rd fin
    cases rd
    exact PySem.P.repr_of_bool (fin _ _ _ fun _ _ e => e)
  | int i =>
    have hi := ok.nums
    rw [hp] at rd fin hi
    cases rd
    exact PySem.P.repr_of_int (by simpa [PyData.showable] using hi) (fin _ _ _ fun _ _ e => e)
  | str z =>
    rw [hp] at rd fin hsz
    cases rd
    exact PySem.P.repr_of_str (fin _ _ _ fun _ _ e => e) (by simpa [PyData.shown] using hsz)
  | list l =>
    rw [hp] at rd fin hsz hd
    obtain ⟨a, rfl⟩ := isRef_of_reads rd rfl
    exact repr_of_reads' rd (by rw [← hp]; exact ok.nums) (fun z => hl (ok.dicts (by rw [hp]; exact z))) hs (by omega) (fun _ _ e => e) (fun h' t tk hk => fin h' t tk hk) hsz
  | tuple l =>
    rw [hp] at rd fin hsz hd
    obtain ⟨a, rfl⟩ := isRef_of_reads rd rfl
    exact repr_of_reads' rd (by rw [← hp]; exact ok.nums) (fun z => hl (ok.dicts (by rw [hp]; exact z))) hs (by omega) (fun _ _ e => e) (fun h' t tk hk => fin h' t tk hk) hsz
  | dict l =>
    rw [hp] at rd fin hsz hd
    cases rd with
    | dict h1 h2 h3 h4 h5 =>
      exact repr_of_reads' (.dict h1 h2 h3 h4 h5) (by rw [← hp]; exact ok.nums) (fun z => hl (ok.dicts (by rw [hp]; exact z))) hs (by omega) (fun _ _ e => e) (fun h' t tk hk => fin h' t tk hk) hsz
theorem cj_repr {K : PySem.W.Frag} {d : D} (ok : ShowOk d) : CJ K (rRepr K) [d] (.str (showD d)) := .mk fun xs G H Q hx s q => by
  cases hx with
  | cons h r =>
    cases r
    exact ⟨_, d, rfl, h.mono s, ok, q _ G H (Gd.refl s) (.str _)⟩
end DN

/-! ground 7: errors as values -/
namespace DN
section
open PySem PySem.W PySem.Spec PySem.Calls PyProof.Rows
variable {prog : Program} {w : World} {A : Around} {E : Value → Shared → Prop} {s : Shared} {K : Frag} {x D : Addr} {ox : Obj} {od : Option Obj}
theorem find_data {C : Addr} {name : Str} {a g : Value} (hc : (clsIn K C).isSome = true) (ha : findIn K (.ref C) name = some (some a)) (hg : specialIn K a "__get__" = some (some g)) (ht : takesIn K a = some true) : findObj K C od name = some (.bind g a) := by
  obtain ⟨cd, hcd⟩ := Option.isSome_iff_exists.mp hc
  simp [findObj, hcd, ha, hg, ht]
/-- e.__class__ of an error, with its own dict or without -/
theorem class_of_err {Q : Option Value → Shared → Prop} (F : L2.ExcC K D) (X : K.In s.heap) (I : InstAt s.heap x ox D od)
    (h : Q (some (.ref D)) { s with toks := s.toks + 1 }) : wpAny (model prog w) A (getAttr? (.ref x) "__class__") Q E s := by
  have fnd : findObj K D od "__class__" = some (.bind (.builtin "getset_descriptor.__get__") (.builtin "object.__class__")) :=
    find_data (by obtain ⟨cd, hc, _⟩ := any_some F.hd; rw [hc]; rfl) F.ha F.hn F.ht
  obtain ⟨hh, gg, dd, tt, oo⟩ := s
  have k0 := I.type (M := model prog w); have k1 := looks_findIn (M := model prog w) X F.hg
  have k2 := looks_findIn (M := model prog w) X F.hk; have k3 := looks_find (M := model prog w) X I fnd
  have isB : Looks (model prog w) hh (isInstance (.ref x) (.type "BaseException")) true :=
    k0.andThen (looks_subIn X F.hs)
  have b0 : (false && onTheHeap (Value.builtin "BaseException.__getattribute__")) = false := rfl
  have b2 : (Value.builtin "BaseException.__getattribute__" == Value.builtin "object.__getattribute__") = false := by
    decide +kernel
  have b1 : (onTheHeap (Value.ref D) && Value.builtin "BaseException.__getattribute__" == Value.builtin "object.__getattribute__") = false := by
    rw [b2]; rfl
  unfold getAttr? getAttrBy? getAttrBy
  refine wpAny_bind (wpAny_mkText (wpAny_bind (wpAny_attempt (wpAny_holding
    (wpAny_bind (k0.at (wpAny_bind (k1.at ?_))))))))
  show wpAny _ _ (if (onTheHeap (Value.ref D) && Value.builtin "BaseException.__getattribute__" == Value.builtin "object.__getattribute__") = true then _ else _) _ _
    _
  rw [b1, if_neg Bool.false_ne_true]
  unfold getAttrByItsOwn hookBefore
  refine wpAny_bind ?_
  rw [if_pos (show onTheHeap (Value.ref D) = true
    from rfl)]
  refine k2.at ?_
  refine wpAny_bind (wpAny_attempt
    (wpAny_holding ?_))
  unfold callGetattribute
  rw [b0, if_neg Bool.false_ne_true]
  unfold boundAndCalled
  rw [PySem.F.excAttr_ValueError.ga.bind
    (.ref x)]
  refine wpAny_bind (wpAny_pure ?_)
  show wpAny _ _ (call (.builtin "BaseException.__getattribute__")
    [.ref x, .str "__class__" tt]) _ _ _
  refine wpAny_call (codeAny_call_builtin PySem.F.excAttr_ValueError.ga.plain
    PySem.F.entry_bexc_ga ?_)
  refine @check_slot (model prog w) _ _ ⟨hh, gg, dd, tt + 1, oo⟩ "BaseException.__getattribute__" "BaseException" "__getattribute__"
    (.ref x) [.str "__class__" tt] [] _ (by decide +kernel) (by decide +kernel) isB (PySem.F.args_bexc_ga (.ref x) (.str "__class__" tt)) ?_
  unfold Builtin.«object.__getattribute__»
  refine wpAny_bind (wpAny_of_eq (a := ((Value.ref x : Value), [Value.str "__class__" tt]))
    (by first | rfl | (simp only [slotArgs]; rfl)) ?_)
  refine wpAny_bind (wpAny_pure (wpAny_bind
    (k0.at (wpAny_bind (k3.at ?_)))))
  show wpAny _ _ (holding [Value.builtin "object.__class__"]
    (call (.builtin "getset_descriptor.__get__") [.builtin "object.__class__", .ref x, .ref D]) >>= ret) _ _ _
  refine wpAny_bind (wpAny_holding (wpAny_call
    (class_get (s := ⟨hh, gg, dd, tt + 1, oo⟩) (ox := ox) (od := od) X I F.hm ?_)))
  refine wpAny_pure ?_
  show wpAny _ _ (handedOut (.ref D)) _ _
    _
  rw [handedOut_of (v := .ref D)
    rfl]
  first | exact wpAny_pure (wpAny_pure h) | exact wpAny_pure h | exact wpAny_pure (wpAny_bind (wpAny_pure (wpAny_pure h)))
theorem kit_err (F : L2.ExcC K D) : KitX K (.ref x) (.ref D) (fun h => InstAt h x ox D od) := by
  obtain ⟨cdD, hcD, _⟩ := any_some F.hd
  unfold clsIn at hcD
  split at hcD
  · rename_i c' d' cd' sl' ho
    refine { ty := fun _ _ _ I => I.type, it := fun _ _ X _ => ?_, ne := fun h tp dd its n sl X htp => ?_, ca := fun X I k => class_of_err F X I k }
    · intro A' Q' E' s' k q
      unfold isType loadHead
      exact wpAny_bind
        (wpAny_loadPart (k _ _ (X _ _ ho)) (wpAny_pure q))
    · refine Bool.eq_false_iff.mpr fun q => ?_
      have e : D = tp := Value.ref.inj (beq_iff_eq.mp
        q)
      subst e
      have z := (X _ _ ho).symm.trans
        htp
      cases z
  · cases hcD
end
section
open PySem PySem.Spec PyProof.Rows L2
variable {X : Cx} {pins : List (Addr × Obj)} {σ : L2.St} {H : Hp} {s : Shared}
/-- an error with its dict, as an instance -/
theorem err_inst {a C dx : Addr} {fs : List (Str × V)} (I : Inv X pins σ H s) (ha : H a = some (exo a C (some dx))) (hd : H dx = some (exd dx fs)) :
    ∃ (ox od : Obj) (mA : Str → Option Value), PySem.W.InstAt s.heap a ox C (some od) ∧ (∀ name, PySem.W.lookIn name od = some (mA name)) ∧ ∀ f, RelO (fs.lookup f) (mA f) := by
  obtain ⟨t1, ho⟩ := exo_at I.hok ha
  obtain ⟨mA, hn, rel⟩ := exd_at I.hok hd
  obtain ⟨od, hod, lk⟩ := lookIn_ns hn
  exact ⟨_, od, mA, ⟨ho, rfl, rfl, hod⟩, lk, rel⟩
/-- isinstance(e, C) of an error -/
def rIsX (K : PySem.W.Frag) : List V → Hp → VK → Prop := fun xs H Q => ∃ (a C dx : Addr) (fs : List (Str × V)) (c : V) (cv : Value) (b : Bool), xs = [.ref a, c] ∧ ClsV c cv ∧ H a = some (exo a C (some dx)) ∧ H dx = some (exd dx fs) ∧ ExcC K C ∧ PySem.W.kitOne K (.ref C) cv = some b ∧ Q (.bl b) H
theorem call_isX : CallR X (.builtin "isinstance") (rIsX X.K) := by
  intro pins s σ H xs us Q I r h
  obtain ⟨a, C, dx, fs, c, cv, b, rfl, hc, ha, hd, F, e, q⟩ := h
  obtain ⟨u1, u2, rfl, r1, r2⟩ := vals2 r
  have e2 := hc.eq r2
  subst e2
  have e1 : u1 = .ref a := r1
  subst e1
  obtain ⟨ox, od, mA, J, _, _⟩ := err_inst I ha hd
  exact PySem.W.kia_one (kit_err (ox := ox) (od := some od) F) I.kIn J e (fun z => nomatch z) fun tk => ⟨.bl b, H, I.tok tk, rfl, q⟩
/-- e.f of an error -/
def tErr (K : PySem.W.Frag) (f : Str) (te : TE) : TE := fun σ H Q => te σ H fun x H1 => ∃ (a C dx : Addr) (fs : List (Str × V)) (v : V), x = .ref a ∧ H1 a = some (exo a C (some dx)) ∧ H1 dx = some (exd dx fs) ∧ XfC K C ∧ PySem.W.findIn K (.ref C) f = some none ∧ fs.lookup f = some v ∧ Q v H1
theorem pe_err {e : Expr} {te : TE} {pos : Pos} {f : Str} (he : PE X e te) (hb : attributeBase e f X.env (eval e X.env) = eval e X.env := by rfl) : PE X (.Attribute e f pos) (tErr X.K f te) := by
  constructor
  intro pins s σ H Q I h
  refine attr_of hb (thn (he.run pins s σ H _ I h) fun u s1 z => ?_)
  obtain ⟨x, H1, I1, rx, a, C, dx, fs, v, rfl, ha, hd, F, hno, l, q⟩ := z
  have eu : u = .ref a := rx
  subst eu
  obtain ⟨ox, od, mA, J, lk, rel⟩ := err_inst I1 ha hd
  obtain ⟨uv, hu, ru⟩ := RelO.some_of (v := v) (o := mA f) (by rw [← l]; exact rel f)
  refine HandSPX.exc_get I1.kIn J F.ga F.gg F.exC ?_ (handed_of ru) ⟨v, H1, I1.tok _, ru, q⟩
  exact PySem.W.findObj_own F.hdC hno rfl (by rw [lk, hu])
/-- X(e), as a value: a new error -/
def tExV (sp : Sp) (C : Addr) (ta : TA) : TE := fun σ H Q => ta σ H fun vs H1 => vs.length ≤ 1000 ∧ ∀ a, H1 a = none → sp (.ref a :: vs) (upd H1 a (exo a C none)) (fun v H2 => v = .non ∧ Q (.ref a) H2) fun _ _ _ => False
theorem pe_exV {e : Expr} {es : List Expr} {ta : TA} {p pos : Pos} {CX : CXT} {x : Str} {C fI : Addr} {k : Nat} {fd : FuncData} {ps : List Str} {sp : Sp} (T : OexC X.K C) (iC : PySem.W.findIn X.K (.ref C) "__init__" = some (some (.ref fI))) (tI : PySem.W.typeIn X.K (.ref fI) = some (.type "function"))
    (F1 : FnOk X.prog X.w X.K X.mg X.base CX k fI fd ps sp) (room : Room (k + 1) X.A) (b : Binds X.K fd ps []) (hx : Passes CX X (fun _ _ _ => False)) (hg : Gl X x) (hm : X.mg x = some (.ref C)) (ha : PA X (e :: es) ta)
    (hdb : (x == ("__debug__" : Str)) = false := by decide) (h1 : starEach (e :: es) X.env = (false, eval e X.env) :: starEach es X.env := by rfl) (h2 : (backTo pos (starEach es X.env)).any (·.1) = false := by rfl) : PE X (.Call (.Name x p) (e :: es) [] pos) (tExV sp C ta) := by
  constructor
  intro pins s σ H Q I h
  obtain ⟨nm, q, N, bs, bm, sn, sub, ab, col, dd, k0, k1, k2, k3, k5, lookC, good⟩ := T.cls
  refine wpAny_Call_Name_kw (ld_glob I hg hm ?_ hdb)
  refine PySem.W.callWith_K (h₀ := X.base) I.ok.mod.kin T.kC
    (thn (ha.run pos pins s σ H _ I h) fun us s1 ⟨vs, H1, I1, r1, hz, q1⟩ => ⟨I1.kIn, ?_⟩) h1 h2
  show wpAny _ _ (call (.ref C) us) _
    _ _
  obtain ⟨hp, g, dr, tk, os⟩ := s1
  have n1 : H1 (hp.objs.size + 1) = none := I1.hok.fresh (Nat.le_succ _)
  have hq := q1 (hp.objs.size + 1) n1
  have keep : ∀ b o, hp.get? b = some o → ((hp.push (PySem.W.kdv_tup us)).push (PySem.HandSPX.excO C hp.objs.size)).get? b = some o :=
    fun b o e => Heap.get?_push_of_some _ (Heap.get?_push_of_some _ e)
  have got : ((hp.push (PySem.W.kdv_tup us)).push (PySem.HandSPX.excO C hp.objs.size)).get? (hp.objs.size + 1) = some (PySem.HandSPX.excO C hp.objs.size) := by
    heap_get
  have I2 := I1.laid (t' := tk) (a := hp.objs.size + 1) (o := exo (hp.objs.size + 1) C none) (h' := (hp.push (PySem.W.kdv_tup us)).push (PySem.HandSPX.excO C hp.objs.size)) keep (Nat.le_succ _) (exo_ok got)
  have r2 : Vals (V.ref (hp.objs.size + 1) :: vs) (Value.ref (hp.objs.size + 1) :: us) := .cons rfl r1
  have ln : (Value.ref (hp.objs.size + 1) :: us).length = ps.length := by
    rw [← Paired.length r2]
    exact F1.len _ _ _ _ hq
  have small : us.length ≤ sizeLine := by
    rw [← Paired.length r1, sizeLine_eq]; omega
  have bt := b ⟨(hp.push (PySem.W.kdv_tup us)).push (PySem.HandSPX.excO C hp.objs.size), g, dr, tk, os⟩ (Value.ref (hp.objs.size + 1) :: us) I2.kIn (by rw [List.append_nil]; exact ln)
  rw [List.append_nil] at bt
  have run := F1.run _ X.stack _ _ ⟨Value.ref (hp.objs.size + 1) :: us, []⟩ (Value.ref (hp.objs.size + 1) :: us) _ _ (fun _ _ _ => False) (room.make C us []) (I2.env0.make C us []) bt r2 hq
  refine wpAny_call (PySem.HandSPX.call_own F.excBase_ValueError (fun Y => PySem.HandSPX.refsVE_contains Y bm good) (I1.kIn _ _ lookC) (PySem.W.looks_findIn I1.kIn iC)
    (fun self => PySem.W.bind_fn I1.kIn self tI) small (codeAny_mono run ?_))
  intro r s' z
  match r, z with
  | .error er, z => exact hx pins σ _ _ er s' I2 z
  | .ok .next, z => exact absurd z (fun q => q)
  | .ok .brk, z => exact absurd z (fun q => q)
  | .ok .cont, z => exact absurd z (fun q => q)
  | .ok (.ret u), z =>
    obtain ⟨v, H2, J, rv, ev, q2⟩ := I2.after z
    subst ev
    exact ⟨rv, .ref (hp.objs.size + 1), H2, J, rfl, q2⟩
end
end DN

/-! ground 8: more operations over data -/
namespace DN
open PySem PySem.Spec PyProof.Rows L2
variable [Tb]

/-! counts of flat items -/
def rCntF (K : PySem.W.Frag) : V → List V → Hp → VK → Prop := fun x xs H Q => ∃ (a : Addr) (ys : List V) (y : V), x = .ref a ∧ xs = [y] ∧ SqL K H a ys ∧ flatV y = true ∧ ys.all flatV = true ∧ Q (.int (ys.countP (fun z => eqV z y) : Nat)) H
theorem countP_eqU {y : V} {uy : Value} (ry : RelV y uy) : ∀ {ys : List V} {us : List Value}, Vals ys us → ys.all flatV = true → us.countP (eqU y) = ys.countP (fun z => eqV z y)
  | _, _, .nil, _ => rfl
  | _, _, .cons (a := z) (b := u) r rs, f => by
    rw [List.all_cons, Bool.and_eq_true] at f
    rw [List.countP_cons, List.countP_cons, countP_eqU ry rs f.2, eqU_of r f.1]
theorem mt_lcountF {X : Cx} : MtR X "list.count" (rCntF X.K) := by
  intro pins s σ H x xs v us Q I rx rxs h
  obtain ⟨a, ys, y, rfl, rfl, hs, fy, fys, q⟩ := h
  cases rx
  cases rxs with
  | cons ry rt =>
    rename_i uy ut
    cases rt
    obtain ⟨its, rv, ⟨⟨cls, dd, data, sl⟩, n, ho, hc, hdn, hd⟩, hlen⟩ := I.list hs
    simp only at hc hd
    subst hc hd
    refine call_meets PySem.F.slot_list_count ⟨_, ho, rfl⟩ PySem.F.entry_list_count (PySem.F.args_list_count_2 _ _)
      (SeqAt.list_countAt a its.toArray n dd sl uy (eqU y)) ⟨ho, fun u' hu' => mem_eqAt ry fy rv fys u' (by simpa using hu'), ?_⟩
    refine ⟨.int (ys.countP (fun z => eqV z y) : Nat), H, I.tok _, ⟨s.toks, ?_⟩, q⟩
    show Value.int ((its.toArray.toList.countP (eqU y) : Nat) : Int) s.toks = _
    rw [show its.toArray.toList = its from by simp, countP_eqU ry rv fys]

/-! one of two readings -/
theorem op_or {X : Cx} {f : Value → Value → Sem Value} {r1 r2 : R2} (h1 : OpR X f r1) (h2 : OpR X f r2) : OpR X f (fun x y H Q => r1 x y H Q ∨ r2 x y H Q) := fun pins s σ H x y v u Q I rx ry h => by
  rcases h with h | h
  · exact h1 pins s σ H x y v u Q I rx ry h
  · exact h2 pins s σ H x y v u Q I rx ry h

/-! != of equal data -/
mutual
/-- no dict in it -/
def seqD : D → Bool
  | .non => true
  | .bl _ => true
  | .int _ => true
  | .str _ => true
  | .tup l => seqL l
  | .lst l => seqL l
  | _ => false
def seqL : List D → Bool
  | [] => true
  | d :: r => seqD d && seqL r
end
theorem at_dp {K : PySem.W.Frag} {H : Hp} {v : V} {d : D} (h : At K H v d) : seqD d = true → Dp K H v (py d) :=
  At.rec (motive_1 := fun v d _ => seqD d = true → Dp K H v (py d)) (motive_2 := fun vs ds _ => seqL ds = true → DpAll K H vs (pyL ds)) (motive_3 := fun _ _ _ => True) (motive_4 := fun _ _ _ => True)
    (fun _ => .non) (fun b _ => .bl b) (fun i _ => .int i) (fun x _ => .str x)
    (fun {a xs ds} hs _ ih hp => .tup hs (ih (by simpa [seqD] using hp)))
    (fun {a xs ds} hs _ ih hp => .lst (.inl (.inl hs)) (ih (by simpa [seqD] using hp)))
    (fun _ _ _ hp => by simp [seqD] at hp) (fun _ _ _ hp => by simp [seqD] at hp) (fun _ _ _ _ hp => by simp [seqD] at hp) (fun v hp => by simp [seqD] at hp) (fun _ hp => by simp [seqD] at hp) (fun _ _ _ hp => by simp [seqD] at hp)
    (fun _ => .nil) (fun {v vs d ds} _ _ i1 i2 hp => by
      have hp' : seqD d = true ∧ seqL ds = true := by simpa [seqL] using hp
      exact .cons (i1 hp'.1) (i2 hp'.2))
    trivial (fun _ _ _ _ => trivial) trivial (fun _ _ _ _ => trivial) h
def rNeS (K : PySem.W.Frag) : R2 := fun x y H Q => rNeD K x y H Q ∨ rNeDA x y H Q
theorem op_neS {X : Cx} (hu : X.A.units + 64 < cLine) : OpR X (compareOp .NotEq) (rNeS X.K) := op_or (op_neD hu) (op_ne_dictA (by omega))
/-- a dict of flat values, each key once -/
def flatDct : D → Bool
  | .dct [] => true
  | .dct [(_, .int _)] => true
  | _ => false
structure SameOk (d : D) : Prop where
  ok : (seqD d = true ∧ SeqAt.shaped (py d) = true ∧ (py d).canLay0 = true) ∨ flatDct d = true
section
variable {ρ : Rh} {K : PySem.W.Frag} {E : XK} {δ δ' : Dl} {te ta tb tc : TE} {t u ts : TS} {tt tu : TT} {tA : TA} {k k1 k2 k3 : Nat} {P P1 P2 : D → Prop} {PO PO' : Out → Prop} {a b c d : D} {i j : Nat} {X : Cx}
theorem rj_neSelf (h : SameOk d) : RJ K (rNeS K) d d (.bl false) := .mk fun x y G H Q hx hy s q => by
  have ax := hx.mono s
  have ay := hy.mono s
  rcases h.ok with ⟨h1, h2, h3⟩ | h1
  · refine .inl ⟨_, _, at_dp ax h1, at_dp ay h1, h2, h2, ?_⟩
    rw [SeqAt.eqv_refl _ h3]
    exact q _ G H (Gd.refl s) (.bl _)
  · refine .inr ?_
    unfold flatDct at h1
    split at h1
    · cases ax with
      | dct ha hl =>
        cases hl
        cases ay with
        | dct hb hl =>
          cases hl
          exact ⟨_, _, _, _, rfl, rfl, ha, hb, rfl, fun p hp => by simp at hp, q _ G H (Gd.refl s) (.bl _)⟩
    · cases ax with
      | dct ha hl =>
        cases hl with
        | cons hv hl =>
          cases hl
          cases hv
          cases ay with
          | dct hb hl =>
            cases hl with
            | cons hv hl =>
              cases hl
              cases hv
              refine ⟨_, _, _, _, rfl, rfl, ha, hb, rfl, fun p hp => ?_, q _ G H (Gd.refl s) (.bl _)⟩
              rw [List.mem_singleton] at hp
              subst hp
              exact ⟨by simp [valV], rfl⟩
    · cases h1

/-! slots forgotten -/
theorem Wf.fewer {G0 H0 G H : Hp} {σ : L2.St} {m : Nat} (w : Wf ρ K G0 H0 G H σ δ m) (hl : δ'.length = δ.length) (h : ∀ (i : Nat) (s : Sl), δ'[i]? = some (some s) → δ[i]? = some (some s)) : Wf ρ K G0 H0 G H σ δ' m :=
  ⟨by rw [hl]; exact w.len, w.gd, w.pot, w.pot0, fun i s e => w.sl i s (h i s e), fun i j d e n h1 h2 => w.ap i j d e n (h _ _ h1) (h _ _ h2)⟩
inductive Fewer : Dl → Dl → Prop
  | nil : Fewer [] []
  | keep {s : Option Sl} {a b : Dl} : Fewer a b → Fewer (s :: a) (s :: b)
  | drop {s : Option Sl} {a b : Dl} : Fewer a b → Fewer (none :: a) (s :: b)
theorem Fewer.len : ∀ {a b : Dl}, Fewer a b → a.length = b.length
  | _, _, .nil => rfl
  | _, _, .keep h => congrArg (· + 1) h.len
  | _, _, .drop h => congrArg (· + 1) h.len
theorem Fewer.get : ∀ {a b : Dl}, Fewer a b → ∀ (i : Nat) (s : Sl), a[i]? = some (some s) → b[i]? = some (some s)
  | _, _, .nil, i, s, e => e
  | _, _, .keep h, 0, s, e => e
  | _, _, .drop h, 0, s, e => by simp at e
  | _, _, .keep h, i + 1, s, e => by simpa using h.get i s (by simpa using e)
  | _, _, .drop h, i + 1, s, e => by simpa using h.get i s (by simpa using e)
theorem sj_nextW (h : Fewer δ' δ) (hp : PO (.nx δ')) : SJ ρ K E tNext δ 0 PO := .mk fun G0 H0 G H σ m D w hm q => q _ hp G H σ m (w.fewer h.len h.get) (Nat.le_refl _)
theorem sj_fewer (h : Fewer δ' δ) (hs : SJ ρ K E ts δ' k PO) : SJ ρ K E ts δ k PO := .mk fun G0 H0 G H σ m D w hm q => hs.run G0 H0 G H σ m D (w.fewer h.len h.get) hm q

/-! lists of the def's own -/
theorem sj_ext {ds es : List D} (hi : δ[i]? = some (some (.own (.lst ds)))) (h : ED ρ K te δ (.lst es)) (hl : ds.length + es.length ≤ 1000000) (hn : SJ ρ K E u (δ.set i (some (.own (.lst (ds ++ es))))) k PO) :
    SJ ρ K E (tSeq (tDrop (tBM K "list" rExtend (tVar i) (tCons te tNil))) u) δ k PO := .mk fun G0 H0 G H σ m D w hm q => by
  obtain ⟨v, e1, p, o, rfl, hp, ha, hg, h0⟩ := w.sl i _ hi
  cases ha with
  | @lst xs _ hxs =>
    refine ⟨_, e1, .inl ⟨rfl, _, .inl (.inl hp)⟩, ?_⟩
    refine h.run G0 H0 G H σ m _ w (by omega) fun d v G' H' m' pd w' g l x => ?_
    subst pd
    cases x with
    | @lst b zs _ hb hzs =>
      obtain ⟨v2, e2, p2, o2, r2, hp2, ha2, hg2, h02⟩ := w'.sl i _ hi
      rw [e1] at e2
      cases e2
      cases r2
      cases ha2 with
      | @lst xs2 _ hxs2 =>
        refine ⟨p, b, xs2, zs, rfl, rfl, hp2, w'.gd.sub _ _ hb, by rw [hxs2.len, hzs.len]; exact Nat.le_trans hl (by decide), ?_⟩
        exact hn.run G0 H0 G' _ σ m' D (w'.chg hi e1 (.lst (hxs2.app hzs))) (by omega) fun o po => (q o po).le (by omega)
theorem sj_app {ds : List D} (hi : δ[i]? = some (some (.own (.lst ds)))) (h : EJ ρ K te δ k1 P) (hl : ds.length < 1000000) (hn : ∀ d, P d → SJ ρ K E u (δ.set i (some (.own (.lst (ds ++ [d]))))) k PO) :
    SJ ρ K E (tSeq (tDrop (tBM K "list" rAppend (tVar i) (tCons te tNil))) u) δ (k1 + k) PO := .mk fun G0 H0 G H σ m D w hm q => by
  obtain ⟨v, e1, p, o, rfl, hp, ha, hg, h0⟩ := w.sl i _ hi
  cases ha with
  | @lst xs _ hxs =>
    refine ⟨_, e1, .inl ⟨rfl, _, .inl (.inl hp)⟩, ?_⟩
    refine h.run G0 H0 G H σ m _ w (by omega) fun d v G' H' m' pd w' g l x => ?_
    obtain ⟨v2, e2, p2, o2, r2, hp2, ha2, hg2, h02⟩ := w'.sl i _ hi
    rw [e1] at e2
    cases e2
    cases r2
    cases ha2 with
    | @lst xs2 _ hxs2 =>
      refine ⟨p, xs2, v, rfl, rfl, hp2, by rw [hxs2.len]; exact Nat.lt_of_lt_of_le hl (by decide), ?_⟩
      exact (hn d pd).run G0 H0 G' _ σ m' D (w'.chg hi e1 (.lst (hxs2.app (.cons x .nil)))) (by omega) fun o po => (q o po).le (by omega)
/-- x, y = e, f -/
theorem sj_par {PA : List D → Prop} (h : EA ρ K tA δ k1 PA) (h2 : ∀ ds, PA ds → ∃ a b, ds = [a, b] ∧ SJ ρ K E u ((δ.set i (some (.val a))).set j (some (.val b))) k2 PO) : SJ ρ K E (tSeq (tPar i j tA) u) δ (k1 + k2) PO := .mk fun G0 H0 G H σ m D w hm q =>
  h.run G0 H0 G H σ m _ w (by omega) fun ds vs G' H' m' pd w' g l x => by
    obtain ⟨a, b, rfl, hs⟩ := h2 ds pd
    cases x with
    | cons h1 r =>
      cases r with
      | cons h2 r =>
        cases r
        exact ⟨_, _, rfl, hs.run G0 H0 G' H' _ m' D ((w'.set h1).set h2) (by omega) fun o po => (q o po).le (by omega)⟩

/-! methods of lists -/
theorem ej_bm {T : String} {r : V → List V → Hp → VK → Prop} {PA : List D → Prop} (h : EJ ρ K te δ k1 P1) (hA : ∀ d, P1 d → EA ρ K tA δ k2 PA) (hty : ∀ d v G H, P1 d → At K G v d → Same G H → tyV K T v H)
    (hr : ∀ d ds, P1 d → PA ds → ∃ c, P c ∧ ∀ (x : V) (xs : List V) (G H : Hp) (Q : VK), At K G x d → AtL K G xs ds → Same G H → (∀ v G' H', Gd .none G H G' H' → At K G' v c → Q v H') → r x xs H Q) : EJ ρ K (tBM K T r te tA) δ (k1 + k2) P := .mk fun G0 H0 G H σ m Q w hm q =>
  h.run G0 H0 G H σ m _ w (by omega) fun d v G1 H1 m1 pd w1 g1 l1 x => ⟨hty d v G1 H1 pd x w1.gd.sub, (hA d pd).run G0 H0 G1 H1 σ m1 _ w1 (by omega) fun ds vs G2 H2 m2 pds w2 g2 l2 xs => by
    obtain ⟨c, pc, run⟩ := hr d ds pd pds
    refine run v vs G2 H2 Q (x.mono g2.gg) xs w2.gd.sub fun v G3 H3 g3 av => ?_
    exact q c v G3 H3 m2 pc (w2.step g3.weak (w2.pot.keep g3)) (Gd.trans w2.pot (Gd.trans w1.pot g1 g2) g3.weak) (by omega) av⟩
theorem bls_flat (bs : List Bool) : (bs.map V.bl).all flatV = true := by
  rw [List.all_eq_true]
  intro x hx
  obtain ⟨b, _, rfl⟩ := List.mem_map.mp hx
  rfl
theorem ed_idxB {bs : List Bool} {n : Nat} (h : ED ρ K te δ (.lst (bs.map D.bl))) (h1 : bs[n]? = some true) (h2 : ∀ m : Nat, m < n → bs[m]? = some false) : ED ρ K (tBM K "list" (rIndex K) te (tCons (tC (.bl true)) tNil)) δ (.int (n : Nat)) :=
  ej_bm (P1 := (· = .lst (bs.map D.bl))) (PA := (· = [.bl true])) h (fun _ _ => eda_cons ed_bl eda_nil) (fun d v G H e x s => by
    subst e
    cases x with
    | lst ha hl => exact .inl ⟨rfl, _, .inl (.inl (s _ _ ha))⟩) (fun d ds e1 e2 => by
    subst e1 e2
    refine ⟨_, rfl, fun x xs G H Q hx hxs s q => ?_⟩
    cases hxs with
    | cons hy r =>
      cases r
      cases hy
      cases hx with
      | @lst p ys _ ha hl =>
        have e := hl.bls
        subst e
        refine ⟨p, _, .bl true, n, .bl true, rfl, rfl, .inl (.inl (s _ _ ha)), rfl, bls_flat _, by rw [List.getElem?_map, h1]; rfl, rfl, fun m z hm hz => ?_, q _ G H (Gd.refl s) (.int _)⟩
        rw [List.getElem?_map, h2 m hm] at hz
        cases hz
        rfl)
theorem ed_cntB {bs : List Bool} (h : ED ρ K te δ (.lst (bs.map D.bl))) : ED ρ K (tBM K "list" (rCntF K) te (tCons (tC (.bl true)) tNil)) δ (.int (bs.count true : Nat)) :=
  ej_bm (P1 := (· = .lst (bs.map D.bl))) (PA := (· = [.bl true])) h (fun _ _ => eda_cons ed_bl eda_nil) (fun d v G H e x s => by
    subst e
    cases x with
    | lst ha hl => exact .inl ⟨rfl, _, .inl (.inl (s _ _ ha))⟩) (fun d ds e1 e2 => by
    subst e1 e2
    refine ⟨_, rfl, fun x xs G H Q hx hxs s q => ?_⟩
    cases hxs with
    | cons hy r =>
      cases r
      cases hy
      cases hx with
      | @lst p ys _ ha hl =>
        have e := hl.bls
        subst e
        refine ⟨p, _, .bl true, rfl, rfl, .inl (.inl (s _ _ ha)), rfl, bls_flat _, ?_⟩
        have e2 : (bs.map V.bl).countP (fun z => eqV z (V.bl true)) = bs.count true := by
          rw [List.countP_map, List.count]
          refine List.countP_congr fun b _ => ?_
          cases b <;> simp [eqV]
        rw [e2]
        exact q _ G H (Gd.refl s) (.int _))

/-! dicts written -/
theorem ed_disp1 {z : Str} (h : ED ρ K te δ d) : EN ρ K (tDisp [(tC (.str z), te)]) δ 0 (· = .dct [(.inr z, d)]) := .mk fun G0 H0 G H σ m Q w hm q => fun p hp => by
  have g1 := Gd.alloc0 (o := HO.dK []) w.gd.sub hp
  have w1 := w.step g1.weak (w.pot.keep g1)
  have gn : G p = none := by
    cases z : G p with
    | none => rfl
    | some x => rw [w.gd.sub p x z] at hp; cases hp
  show te σ (upd H p (HO.dK [])) _
  refine h.run G0 H0 G _ σ m _ w1 hm fun e v G' H' m' pd w' g l x => ?_
  subst pd
  have nr : Fx ρ p := w.pot.fx hp
  have hd : H' p = some (.dK []) := g.keep p _ nr upd_same
  have hgn : G' p = none := by
    cases z : G' p with
    | none => rfl
    | some o =>
      rcases g.new p (ne_none_of z) with y | y
      · exact absurd gn y
      · rw [upd_same] at y; cases y
  refine ⟨hd, [(.inr z, v)], rfl, Nat.le_of_ble_eq_true rfl, ?_⟩
  show Q (.ref p) (upd H' p (HO.dK [(.inr z, v)]))
  have g2 : Gd ρ G H G' (upd H' p (HO.dK [(.inr z, v)])) := (Gd.trans w1.pot g1.weak g).upd hp hgn
  exact q _ p _ G' _ m' rfl (w.step g2 (w'.pot.set (w.pot.fx hp) hd rfl)) g2 l hp upd_same (.dct (.cons x .nil)) hgn
theorem uj_neg {n : Int} : UJ K (rU fun i => .int (-i)) (.int n) (.int (-n)) := .mk fun x G H Q hx s q => by
  cases hx
  exact ⟨n, rfl, q _ G H (Gd.refl s) (.int _)⟩

/-! errors -/
def spInit (K : PySem.W.Frag) : Sp := fun vs H Q _ => ∃ (a C : Addr) (v : V), vs = [.ref a, v] ∧ OexC K C ∧ PySem.W.findIn K (.ref C) "value" = some none ∧ H a = some (exo a C none) ∧
  ∀ dx, H dx = none → dx ≠ a → Q .non (upd (upd H dx (exd dx [("value", v)])) a (exo a C (some dx)))
theorem ed_exV {C : Addr} (h : EDA ρ K tA δ [d]) (O : OexC K C) (hno : PySem.W.findIn K (.ref C) "value" = some none) : ED ρ K (tExV (spInit K) C tA) δ (.exc C d) := .mk fun G0 H0 G H σ m Q w hm q =>
  h.run G0 H0 G H σ m _ w hm fun ds vs G1 H1 m1 pd w1 g1 l1 ax => by
    subst pd
    cases ax with
    | @cons v _ _ _ hv r =>
      cases r
      refine ⟨by simp, fun a ha => ⟨a, C, v, rfl, O, hno, upd_same, fun dx hdx hne => ⟨rfl, ?_⟩⟩⟩
      have hdx1 : H1 dx = none := by rw [upd_ne hne] at hdx; exact hdx
      have an : a ≠ dx := fun z => hne z.symm
      have ga := w1.gd.sub.free ha
      have gd := w1.gd.sub.free hdx1
      have e : upd (upd (upd H1 a (exo a C none)) dx (exd dx [("value", v)])) a (exo a C (some dx)) = upd (upd H1 dx (exd dx [("value", v)])) a (exo a C (some dx)) := by
        funext b
        by_cases z : b = a
        · subst z; rw [upd_same, upd_same]
        · rw [upd_ne z, upd_ne z]
          by_cases y : b = dx
          · subst y; rw [upd_same, upd_same]
          · rw [upd_ne y, upd_ne y, upd_ne z]
      rw [e]
      have g2 := Gd.alloc (o := exd dx [("value", v)]) w1.gd.sub hdx1
      have ha2 : upd H1 dx (exd dx [("value", v)]) a = none := by rw [upd_ne an]; exact ha
      have g3 := Gd.alloc (o := exo a C (some dx)) g2.sub ha2
      have g4 := Gd.trans0 g2 g3
      refine q _ (.ref a) _ _ m1 rfl (w1.step g4.weak (w1.pot.keep g4)) (Gd.trans w1.pot g1 g4.weak) l1 (.exc upd_same ?_ (hv.mono g4.gg))
      rw [upd_ne hne, upd_same]
theorem ed_err {C : Addr} (h : ED ρ K te δ (.exc C d)) (F : XfC K C) (hno : PySem.W.findIn K (.ref C) "value" = some none) : ED ρ K (tErr K "value" te) δ d := .mk fun G0 H0 G H σ m Q w hm q =>
  h.run G0 H0 G H σ m _ w hm fun e v G1 H1 m1 pd w1 g1 l1 x => by
    subst pd
    cases x with
    | @exc a _ dx v _ h1 h2 hv => exact ⟨a, C, dx, _, v, rfl, w1.gd.sub _ _ h1, w1.gd.sub _ _ h2, F, hno, by simp, q d v G1 H1 m1 rfl w1 g1 l1 hv⟩
theorem cj_isX {C : Addr} {x : V} {cv : Value} {r : Bool} (F : ExcC K C) (hc : ClsV x cv) (e : PySem.W.kitOne K (.ref C) cv = some r) : CJ K (rIsX K) [.exc C d, .opq x] (.bl r) := .mk fun xs G H Q hx s q => by
  cases hx with
  | cons h1 t =>
    cases t with
    | cons h2 t =>
      cases t
      cases h2
      cases h1 with
      | @exc a _ dx v _ h1 h2 hv => exact ⟨a, C, dx, _, x, cv, r, rfl, hc, s _ _ h1, s _ _ h2, F, e, q _ G H (Gd.refl s) (.bl _)⟩
end
end DN

/-! ground 9: lists and dicts of a def's own, read and changed -/
namespace DN
open PySem PySem.Spec PyProof.Rows L2
variable [Tb]
/-- what is known, but of p -/
def thaw (G : Hp) (p : Addr) : Hp := fun b => if b = p then none else G b
theorem thaw_same {G : Hp} {p : Addr} : thaw G p p = none := by simp [thaw]
theorem thaw_ne {G : Hp} {p b : Addr} (h : b ≠ p) : thaw G p b = G b := by simp [thaw, h]
section
variable {ρ : Rh} {K : PySem.W.Frag} {E : XK} {δ δ' : Dl} {te ta tb tc : TE} {t u ts : TS} {tt tu : TT} {tA : TA} {k k1 k2 k3 : Nat} {P P1 P2 : D → Prop} {PO PO' : Out → Prop} {a b c d d0 : D} {i j : Nat} {X : Cx}
theorem Gd.thaw {G H G' H' : Hp} {p : Addr} {o : HO} (g : Gd ρ (L2.upd G p o) H G' H') (hg : G p = none) : Gd ρ G H (DN.thaw G' p) H' where
  keep := g.keep
  ot := g.ot
  gg := fun b u e => by
    have n : b ≠ p := fun z => by rw [z, hg] at e; cases e
    rw [thaw_ne n]
    exact g.gg b u (by rw [upd_ne n]; exact e)
  sub := fun b u e => by
    have n : b ≠ p := fun z => by rw [z, thaw_same] at e; cases e
    rw [thaw_ne n] at e
    exact g.sub b u e
  new := fun b e => by
    have n : b ≠ p := fun z => e (by rw [z, thaw_same])
    rw [thaw_ne n] at e
    rcases g.new b e with y | y
    · rw [upd_ne n] at y; exact .inl y
    · exact .inr y
theorem At.atom {G G' : Hp} {v : V} {d : D} (h : At K G v d) (ha : atomD d = true) : At K G' v d := by
  cases h <;> first | exact .non | exact .bl _ | exact .int _ | exact .str _ | (exfalso; revert ha; simp [atomD]; done)
theorem AtL.atoms {G G' : Hp} : ∀ {vs : List V} {ds : List D}, AtL K G vs ds → ds.all atomD = true → AtL K G' vs ds
  | _, _, .nil, _ => .nil
  | _, _, .cons h t, e => by
    rw [List.all_cons, Bool.and_eq_true] at e
    exact .cons (h.atom e.1) (AtL.atoms t e.2)
/-- a value read off what is the def's own -/
theorem ej_peek (i : Nat) (hi : δ[i]? = some (some (.own d0))) (h : EJ ρ K te (δ.set i (some (.val d0))) k P) (ha : ∀ d, P d → atomD d = true) : EJ ρ K te δ k P := .mk fun G0 H0 G H σ m Q w hm q => by
  obtain ⟨p, o, hs, hp, hg, hoa, w'⟩ := w.froze hi
  refine h.run G0 H0 _ H σ m Q w' hm fun d v G' H' m' pd w2 g l x => ?_
  have g3 := g.thaw hg
  exact q d v _ H' m' pd (w.step g3 w2.pot) g3 l (x.atom (ha d pd))
theorem et_peek (i : Nat) {PB : Bool → Prop} (hi : δ[i]? = some (some (.own d0))) (h : ET ρ K tt (δ.set i (some (.val d0))) k PB) : ET ρ K tt δ k PB := .mk fun G0 H0 G H σ m Q w hm q => by
  obtain ⟨p, o, hs, hp, hg, hoa, w'⟩ := w.froze hi
  refine h.run G0 H0 _ H σ m Q w' hm fun b G' H' m' pd w2 g l => ?_
  have g3 := g.thaw hg
  exact q b _ H' m' pd (w.step g3 w2.pot) g3 l
/-- a new list of atoms, made by reading what is the def's own -/
theorem en_peek (i : Nat) (hi : δ[i]? = some (some (.own d0))) (h : EN ρ K te (δ.set i (some (.val d0))) k P) (ha : ∀ d, P d → ∃ ds, d = .lst ds ∧ ds.all atomD = true) : EN ρ K te δ k P := .mk fun G0 H0 G H σ m Q w hm q => by
  obtain ⟨p, o, hs, hp, hg, hoa, w'⟩ := w.froze hi
  refine h.run G0 H0 _ H σ m Q w' hm fun d r o2 G' H' m' pd w2 g l hr ho x hgr => ?_
  have g3 := g.thaw hg
  obtain ⟨ds, rfl, hf⟩ := ha d pd
  refine q _ r o2 _ H' m' pd (w.step g3 w2.pot) g3 l hr ho ?_ ?_
  · cases x with
    | lst hl => exact .lst (hl.atoms hf)
  · by_cases z : r = p
    · subst z; exact thaw_same
    · rw [thaw_ne z]; exact hgr
/-! what is lent, read -/
def nl : Option Sl → Bool
  | some (.lent _) => false
  | _ => true
def oneLent : Dl → Nat → Bool
  | [], _ => true
  | _ :: r, 0 => r.all nl
  | s :: r, i + 1 => nl s && oneLent r i
theorem oneLent_of : ∀ {δ : Dl} {i : Nat}, oneLent δ i = true → ∀ j d, δ[j]? = some (some (.lent d)) → j = i
  | [], _, _, j, d, e => by simp at e
  | s :: r, 0, h, 0, d, e => rfl
  | s :: r, 0, h, j + 1, d, e => by
    have := List.all_eq_true.mp h _ (List.mem_of_getElem? (by simpa using e : r[j]? = some (some (Sl.lent d))))
    cases this
  | s :: r, i + 1, h, 0, d, e => by
    simp only [List.getElem?_cons_zero, Option.some.injEq] at e
    subst e
    simp [oneLent, nl] at h
  | s :: r, i + 1, h, j + 1, d, e => by
    have h' : nl s = true ∧ oneLent r i = true := by simpa [oneLent] using h
    rw [oneLent_of h'.2 j d (by simpa using e)]
theorem Wf.lend {G0 H0 G H : Hp} {σ : L2.St} {m : Nat} (w : Wf ρ K G0 H0 G H σ δ m) (hi : δ[i]? = some (some (.lent d0))) (h1 : oneLent δ i = true) :
    ∃ p o, σ[i]? = some (some (.ref p)) ∧ H p = some o ∧ G p = none ∧ OAt K G o d0 ∧ Wf ρ K (L2.upd G p o) H0 (L2.upd G p o) H σ (δ.set i (some (.val d0))) m := by
  obtain ⟨v, hs, p, o, rfl, hq, hoa, hgq, h0, nr⟩ := w.sl i _ hi
  have gg : Same G (L2.upd G p o) := same_new hgq
  refine ⟨p, o, hs, hq, hgq, hoa, by rw [List.length_set]; exact w.len, ⟨w.gd.keep, Same.refl _, fun b u e => ?_, fun b e => .inl e, w.gd.ot⟩, w.pot, fun a e => ⟨(w.pot0 a e).1, ?_⟩, fun j s e => ?_, fun j l d e n h1 h2 => ?_⟩
  · by_cases z : b = p
    · subst z; rw [upd_same] at e; rw [hq]; exact e
    · rw [upd_ne z] at e; exact w.gd.sub b u e
  · have : a ≠ p := fun z => nr (by rw [← z]; exact e)
    rw [upd_ne this]
    exact w.gnone e
  · by_cases hj : i = j
    · subst hj
      have hl : i < δ.length := by
        cases Nat.lt_or_ge i δ.length with
        | inl h => exact h
        | inr h => rw [List.getElem?_eq_none h] at hi; cases hi
      rw [List.getElem?_set_self hl] at e
      cases e
      exact ⟨.ref p, hs, OAt.at (hoa.mono gg) upd_same⟩
    · rw [List.getElem?_set_ne hj] at e
      obtain ⟨x, hx1, h2⟩ := w.sl j s e
      refine ⟨x, hx1, ?_⟩
      cases s with
      | val d => exact At.mono gg h2
      | own d =>
        obtain ⟨r, o2, rfl, hr, ha, hg, hz⟩ := h2
        have np : r ≠ p := fun z => h0 (by rw [← z]; exact hz)
        exact ⟨r, o2, rfl, hr, ha.mono gg, by rw [upd_ne np]; exact hg, hz⟩
      | lent d => exact absurd (oneLent_of h1 j d e).symm hj
  · have lt : ∀ {q : Nat} {x : D}, (δ.set i (some (.val d0)))[q]? = some (some (.own x)) → δ[q]? = some (some (.own x)) := by
      intro q x e
      by_cases hj : i = q
      · subst hj
        have hl : i < δ.length := by
          cases Nat.lt_or_ge i δ.length with
          | inl h => exact h
          | inr h => rw [List.getElem?_eq_none h] at hi; cases hi
        rw [List.getElem?_set_self hl] at e
        cases e
      · rw [List.getElem?_set_ne hj] at e
        exact e
    exact w.ap j l d e n (lt h1) (lt h2)
theorem ej_peekL (i : Nat) (hi : δ[i]? = some (some (.lent d0))) (h1 : oneLent δ i = true) (h : EJ ρ K te (δ.set i (some (.val d0))) k P) (ha : ∀ d, P d → atomD d = true) : EJ ρ K te δ k P := .mk fun G0 H0 G H σ m Q w hm q => by
  obtain ⟨p, o, hs, hp, hg, hoa, w'⟩ := w.lend hi h1
  refine h.run _ H0 _ H σ m Q w' hm fun d v G' H' m' pd w2 g l x => ?_
  have g3 := g.thaw hg
  exact q d v _ H' m' pd (w.step g3 w2.pot) g3 l (x.atom (ha d pd))
theorem et_peekL (i : Nat) {PB : Bool → Prop} (hi : δ[i]? = some (some (.lent d0))) (h1 : oneLent δ i = true) (h : ET ρ K tt (δ.set i (some (.val d0))) k PB) : ET ρ K tt δ k PB := .mk fun G0 H0 G H σ m Q w hm q => by
  obtain ⟨p, o, hs, hp, hg, hoa, w'⟩ := w.lend hi h1
  refine h.run _ H0 _ H σ m Q w' hm fun b G' H' m' pd w2 g l => ?_
  have g3 := g.thaw hg
  exact q b _ H' m' pd (w.step g3 w2.pot) g3 l
/-! two new things at once -/
theorem own_after {G H G' H' : Hp} {p : Addr} {o : HO} (g : Gd ρ G H G' H') (hr : Fx ρ p) (ho : H p = some o) (hg : G p = none) : H' p = some o ∧ G' p = none := by
  refine ⟨g.keep p o hr ho, ?_⟩
  cases z : G' p with
  | none => rfl
  | some x =>
    rcases g.new p (ne_none_of z) with y | y
    · exact absurd hg y
    · rw [ho] at y; cases y
theorem Wf.rho {G0 H0 G H : Hp} {σ : L2.St} {m : Nat} {p : Addr} (w : Wf ρ K G0 H0 G H σ δ m) (h : H p = none) : Fx ρ p := w.pot.fx h
theorem OAt.sub {G G' : Hp} {o : HO} {d : D} (g : Same G G') (h : OAt K G o d) : OAt K G' o d := h.mono g
theorem sj_parOO (hij : i ≠ j) (ha : EN ρ K ta δ k1 P1) (hb : EN ρ K tb δ k2 P2) (hn : ∀ a b, P1 a → P2 b → SJ ρ K E u ((δ.set i (some (.own a))).set j (some (.own b))) k3 PO) : SJ ρ K E (tSeq (tPar i j (tCons ta (tCons tb tNil))) u) δ (k1 + k2 + k3) PO := .mk fun G0 H0 G H σ m D w hm q =>
  ha.run G0 H0 G H σ m _ w (by omega) fun a p o G1 H1 m1 pa w1 g1 l1 hp ho oa hg => hb.run G0 H0 G1 H1 σ m1 _ w1 (by omega) fun b r o2 G2 H2 m2 pb w2 g2 l2 hr ho2 ob hg2 => by
    have nr := w.rho hp
    obtain ⟨hp2, hgp⟩ := own_after g2 nr ho hg
    have hpr : p ≠ r := fun z => by subst z; rw [ho] at hr; cases hr
    refine ⟨_, _, rfl, (hn a b pa pb).run G0 H0 G2 H2 _ m2 D (Wf.setOwn (i := j) (Wf.setOwn (i := i) w2 (w.fresh hp) hp2 (oa.mono g2.gg) hgp fun l e _ hl => w.notOwn hp hl) (w1.fresh hr) ho2 ob hg2 fun l e hjl hl => ?_) (by omega) fun o po => (q o po).le (by omega)⟩
    by_cases hil : i = l
    · subst hil
      by_cases hs : i < σ.length
      · rw [List.getElem?_set_self hs]
        intro z
        exact hpr (by injection z with z; injection z with z; injection z)
      · rw [List.getElem?_eq_none (by rw [List.length_set]; omega)]
        intro z; cases z
    · rw [List.getElem?_set_ne hil] at hl ⊢
      exact w1.notOwn hr hl
theorem sj_parOV (hij : i ≠ j) (ha : EN ρ K ta δ k1 P1) (hb : EJ ρ K tb δ k2 P2) (hn : ∀ a b, P1 a → P2 b → SJ ρ K E u ((δ.set i (some (.own a))).set j (some (.val b))) k3 PO) : SJ ρ K E (tSeq (tPar i j (tCons ta (tCons tb tNil))) u) δ (k1 + k2 + k3) PO := .mk fun G0 H0 G H σ m D w hm q =>
  ha.run G0 H0 G H σ m _ w (by omega) fun a p o G1 H1 m1 pa w1 g1 l1 hp ho oa hg => hb.run G0 H0 G1 H1 σ m1 _ w1 (by omega) fun b v G2 H2 m2 pb w2 g2 l2 x => by
    have nr := w.rho hp
    obtain ⟨hp2, hgp⟩ := own_after g2 nr ho hg
    exact ⟨_, _, rfl, (hn a b pa pb).run G0 H0 G2 H2 _ m2 D ((Wf.setOwn (i := i) w2 (w.fresh hp) hp2 (oa.mono g2.gg) hgp fun l e _ hl => w.notOwn hp hl).set x) (by omega) fun o po => (q o po).le (by omega)⟩
theorem Wf.two {G0 H0 G H G1 H1 G2 H2 : Hp} {σ : L2.St} {m m1 m2 : Nat} {p r : Addr} {o o2 : HO} {a b : D} (hij : i ≠ j) (w : Wf ρ K G0 H0 G H σ δ m) (w1 : Wf ρ K G0 H0 G1 H1 σ δ m1) (w2 : Wf ρ K G0 H0 G2 H2 σ δ m2) (hp : H p = none) (ho1 : H1 p = some o) (hr : H1 r = none)
    (hp2 : H2 p = some o) (hgp : G2 p = none) (oa : OAt K G2 o a) (ho2 : H2 r = some o2) (ob : OAt K G2 o2 b) (hg2 : G2 r = none) : Wf ρ K G0 H0 G2 H2 ((σ.set i (some (.ref p))).set j (some (.ref r))) ((δ.set i (some (.own a))).set j (some (.own b))) m2 :=
  Wf.setOwn (i := j) (Wf.setOwn (i := i) w2 (w.fresh hp) hp2 oa hgp fun l e _ hl => w.notOwn hp hl) (w1.fresh hr) ho2 ob hg2 fun l e hjl hl => by
    have hpr : p ≠ r := fun z => by subst z; rw [ho1] at hr; cases hr
    by_cases hil : i = l
    · subst hil
      by_cases hs : i < σ.length
      · rw [List.getElem?_set_self hs]
        intro z
        exact hpr (by injection z with z; injection z with z; injection z)
      · rw [List.getElem?_eq_none (by rw [List.length_set]; omega)]
        intro z; cases z
    · rw [List.getElem?_set_ne hil] at hl ⊢
      exact w1.notOwn hr hl
/-- x, y = e, f by a tuple, where both are to grow -/
theorem sj_tupOO {n : Nat} (hij : i ≠ j) (hn2 : n = 2) (ha : EN ρ K ta δ k1 P1) (hb : EN ρ K tb δ k2 P2) (hn : ∀ a b, P1 a → P2 b → SJ ρ K E u ((δ.set i (some (.own a))).set j (some (.own b))) k3 PO) :
    SJ ρ K E (tSeq (tAsg (tTup (tCons ta (tCons tb tNil))) (gTup K n (gCons (gName i) (gCons (gName j) gNil)))) u) δ (k1 + k2 + k3) PO := .mk fun G0 H0 G H σ m D w hm q => by
  subst hn2
  refine ha.run G0 H0 G H σ m _ w (by omega) fun a p o G1 H1 m1 pa w1 g1 l1 hp ho oa hg => hb.run G0 H0 G1 H1 σ m1 _ w1 (by omega) fun b r o2 G2 H2 m2 pb w2 g2 l2 hr ho2 ob hg2 => ?_
  obtain ⟨hp2, hgp⟩ := own_after g2 (w.rho hp) ho hg
  refine ⟨(by show 2 ≤ sizeLine; decide), fun t ht => ?_⟩
  have g3 := Gd.alloc0 (o := HO.tup [V.ref p, V.ref r]) w2.gd.sub ht
  have w3 := w2.step g3.weak (w2.pot.keep g3)
  have n1 : p ≠ t := fun z => by subst z; rw [hp2] at ht; cases ht
  have n2 : r ≠ t := fun z => by subst z; rw [ho2] at ht; cases ht
  refine ⟨t, [.ref p, .ref r], rfl, .inl (.inl upd_same), rfl, _, _, rfl, _, _, rfl, rfl, ?_⟩
  exact (hn a b pa pb).run G0 H0 G2 _ _ m2 D (Wf.two hij w w1 w3 hp ho hr (by rw [upd_ne n1]; exact hp2) hgp (oa.mono g2.gg) (by rw [upd_ne n2]; exact ho2) ob hg2) (by omega) fun o po => (q o po).le (by omega)
/-! pop -/
theorem eraseIdx_at {G : Hp} : ∀ {vs : List V} {ds : List D} (n : Nat), AtL K G vs ds → AtL K G (vs.eraseIdx n) (ds.eraseIdx n)
  | _, _, n, .nil => by simpa using AtL.nil
  | _, _, 0, .cons _ t => by simpa using t
  | _, _, n + 1, .cons h t => by simpa using AtL.cons h (eraseIdx_at n t)
theorem seqIndex_nat {n l : Nat} (h : n < l) : seqIndex? (n : Int) l = some n := by
  unfold seqIndex?
  simp only
  have e : (if (n : Int) < 0 then (n : Int) + (l : Int) else (n : Int)) = (n : Int) := if_neg (by omega)
  rw [e, if_pos (by simp; omega)]
  simp
theorem sj_popApp {ls fs : List D} (hi : δ[i]? = some (some (.own (.lst ls)))) (hj : δ[j]? = some (some (.own (.lst fs)))) (hij : i ≠ j) (h : EJ ρ K te δ k1 (fun d => ∃ n : Nat, d = .int (n : Int) ∧ n < ls.length)) (hl : fs.length < 1000000) (hl2 : ls.length < 2 ^ 40)
    (hn : ∀ n d, ls[n]? = some d → SJ ρ K E u ((δ.set i (some (.own (.lst (ls.eraseIdx n))))).set j (some (.own (.lst (fs ++ [d]))))) k2 PO) :
    SJ ρ K E (tSeq (tDrop (tBM K "list" rAppend (tVar j) (tCons (tBM K "list" rPopAt (tVar i) (tCons te tNil)) tNil))) u) δ (k1 + k2) PO := .mk fun G0 H0 G H σ m D w hm q => by
  obtain ⟨v, e1, p, o, rfl, hp, ha, hg, h0⟩ := w.sl j _ hj
  cases ha with
  | @lst xs _ hxs =>
    obtain ⟨v2, e2, p2, o2, rfl, hp2, ha2, hg2, h02⟩ := w.sl i _ hi
    cases ha2 with
    | @lst ys _ hys =>
      refine ⟨_, e1, .inl ⟨rfl, _, .inl (.inl hp)⟩, _, e2, .inl ⟨rfl, _, .inl (.inl hp2)⟩, ?_⟩
      refine h.run G0 H0 G H σ m _ w (by omega) fun d v G' H' m' pd w' g l x => ?_
      obtain ⟨n, rfl, hnl⟩ := pd
      cases x
      have nr : Fx ρ p2 := fun z => (w.pot0 p2 z).1 h02
      have nr1 : Fx ρ p := fun z => (w.pot0 p z).1 h0
      have hp2' := g.keep _ _ nr hp2
      have hp' := g.keep _ _ nr1 hp
      have hys' := hys.mono g.gg
      have hxs' := hxs.mono g.gg
      obtain ⟨y, hy, hay⟩ := hys'.get (List.getElem?_eq_getElem hnl)
      have w1 := w'.chg hi e2 (.lst (eraseIdx_at n hys'))
      have hne : p ≠ p2 := fun z => by
        subst z
        exact w.ap i j _ _ hij hi hj (e2.trans e1.symm)
      refine ⟨p2, ys, (n : Int), n, y, rfl, rfl, hp2', by omega, by omega, by rw [hys.len]; exact seqIndex_nat hnl, hy, ?_⟩
      refine ⟨p, xs, y, rfl, rfl, by rw [upd_ne hne]; exact hp', by rw [hxs.len]; exact Nat.lt_of_lt_of_le hl (by decide), ?_⟩
      have hj' : (δ.set i (some (.own (.lst (ls.eraseIdx n)))))[j]? = some (some (.own (.lst fs))) := by rw [List.getElem?_set_ne hij]; exact hj
      exact (hn n _ (List.getElem?_eq_getElem hnl)).run G0 H0 G' _ σ m' D (w1.chg hj' e1 (.lst (hxs'.app (.cons hay .nil)))) (by omega) fun o po => (q o po).le (by omega)
/-! while, without draws within -/
theorem sj_while (Inv : Nat → Dl → Prop) (h0 : ∃ n, Inv n δ) (ht : ∀ n δ', Inv n δ' → ∃ b, EB ρ K tt δ' b ∧ (b = false → SJ ρ K E u δ' k2 PO) ∧
    (b = true → SJ ρ K E t δ' 0 (fun o => (∃ δ2 n2, (o = .nx δ2 ∨ o = .ct δ2) ∧ n2 < n ∧ Inv n2 δ2) ∨ (∃ d, o = .rt d ∧ PO o) ∨ ∃ C d, o = .ex C d ∧ PO o))) : SJ ρ K E (tSeq (tWhile tt t) u) δ k2 PO := .mk fun G0 H0 G H σ m D w hm q => by
  obtain ⟨n0, hi0⟩ := h0
  refine ⟨fun n σ' H' => ∃ δ' G' m', Inv n δ' ∧ Wf ρ K G0 H0 G' H' σ' δ' m' ∧ m' ≤ m, ⟨n0, δ, G, m, hi0, w, Nat.le_refl _⟩, ?_⟩
  rintro n σ' H' ⟨δ', G', m', hinv, w', l'⟩
  obtain ⟨b, hb, hf, htr⟩ := ht n δ' hinv
  refine hb.run G0 H0 G' H' σ' m' _ w' (by omega) fun b2 G2 H2 m2 e w2 g2 l2 => ?_
  subst e
  cases b2 with
  | false => exact iteF ((hf rfl).run G0 H0 G2 H2 σ' m2 D w2 (by omega) fun o po => (q o po).le (by omega))
  | true =>
    refine iteT ⟨fun σ3 H3 => ∃ n3, n3 < n ∧ ∃ δ3 G3 m3, Inv n3 δ3 ∧ Wf ρ K G0 H0 G3 H3 σ3 δ3 m3 ∧ m3 ≤ m, fun σ3 H3 h => h, ?_⟩
    refine (htr rfl).run G0 H0 G2 H2 σ' m2 _ w2 (by omega) fun o po => ?_
    rcases po with ⟨δ2, n2, rfl | rfl, hn2, hi2⟩ | ⟨d, rfl, po⟩ | ⟨C, d, rfl, po⟩
    · exact fun G4 H4 σ4 m4 w4 l4 => ⟨n2, hn2, δ2, G4, m4, hi2, w4, by omega⟩
    · exact fun G4 H4 σ4 m4 w4 l4 => ⟨n2, hn2, δ2, G4, m4, hi2, w4, by omega⟩
    · exact fun v G4 H4 m4 g4 p4 l4 a4 => q (.rt d) po v G4 H4 m4 g4 p4 (by omega) a4
    · exact fun p v G4 H4 m4 g4 p4 l4 x4 a4 => q (.ex C d) po p v G4 H4 m4 g4 p4 (by omega) x4 a4

/-! texts, walked -/
def chrD (z : Str) : List D := z.cps.toList.map fun c => D.str ⟨#[c]⟩
theorem ij_str {z : Str} (h : ED ρ K te δ (.str z)) : IJ ρ K (iStr te) δ 0 (· = chrD z) := .mk fun G0 H0 G H σ m R w hm q =>
  h.run G0 H0 G H σ m _ w hm fun d v G' H' m' pd w' g l x => by
    subst pd
    cases x
    refine ⟨z, rfl, q _ (Its z) G' H' _ _ m' rfl w' g l (by rw [show (chrD z).length = z.cps.size by simp [chrD]]; exact walk_str) (fun _ _ => trivial) ?_⟩
    intro i x H1 H2 Gx hi s1 s2 y
    obtain ⟨rfl, c, hc, rfl⟩ := y
    refine ⟨Gx, .str ⟨#[c]⟩, ?_, Gd.refl s2, .str _⟩
    unfold chrD
    rw [List.getElem?_map]
    have : z.cps.toList[i]? = some c := by simpa using hc
    rw [this]
    rfl

/-! dicts -/
def getD' (es : List (Key × D)) (k : Key) : Option D := (es.find? fun e => decide (e.1 = k)).map (·.2)
def putD (es : List (Key × D)) (k : Key) (d : D) : List (Key × D) := if es.any (fun e => decide (e.1 = k)) then es.map (fun e => if e.1 = k then (e.1, d) else e) else es ++ [(k, d)]
theorem AtK.len {G : Hp} : ∀ {vs : List (Key × V)} {es : List (Key × D)}, AtK K G vs es → vs.length = es.length
  | _, _, .nil => rfl
  | _, _, .cons _ t => congrArg (· + 1) t.len
theorem AtK.app {G : Hp} : ∀ {vs ws : List (Key × V)} {es fs : List (Key × D)}, AtK K G vs es → AtK K G ws fs → AtK K G (vs ++ ws) (es ++ fs)
  | _, _, _, _, .nil, h => h
  | _, _, _, _, .cons h t, u => .cons h (AtK.app t u)
theorem AtK.get {G : Hp} {k : Key} : ∀ {vs : List (Key × V)} {es : List (Key × D)}, AtK K G vs es → (∀ d, getD' es k = some d → ∃ v, valV vs k = some v ∧ At K G v d) ∧ (getD' es k = none → valV vs k = none)
  | _, _, .nil => ⟨fun d e => by simp [getD'] at e, fun _ => rfl⟩
  | _, _, .cons (k := k') (v := v) (vs := vs) (d := d) (ds := ds) h t => by
    obtain ⟨i1, i2⟩ := AtK.get (k := k) t
    by_cases z : k' = k
    · subst z
      refine ⟨fun d' e => ⟨v, by simp [valV], ?_⟩, fun e => by simp [getD'] at e⟩
      have : d = d' := by simpa [getD'] using e
      rw [← this]; exact h
    · have e1 : getD' ((k', d) :: ds) k = getD' ds k := by simp [getD', z]
      have e2 : valV ((k', v) :: vs) k = valV vs k := by simp [valV, z]
      rw [e1, e2]
      exact ⟨i1, i2⟩
theorem AtK.any {G : Hp} {k : Key} : ∀ {vs : List (Key × V)} {es : List (Key × D)}, AtK K G vs es → vs.any (fun e => decide (e.1 = k)) = es.any fun e => decide (e.1 = k)
  | _, _, .nil => rfl
  | _, _, .cons _ t => by rw [List.any_cons, List.any_cons, AtK.any t]
theorem AtK.repl {G : Hp} {k : Key} {v : V} {d : D} (hv : At K G v d) : ∀ {vs : List (Key × V)} {es : List (Key × D)}, AtK K G vs es → AtK K G (vs.map fun e => if e.1 = k then (e.1, v) else e) (es.map fun e => if e.1 = k then (e.1, d) else e)
  | _, _, .nil => .nil
  | _, _, .cons (k := k') h t => by
    rw [List.map_cons, List.map_cons]
    by_cases z : k' = k
    · simp only [z, if_true]; exact .cons hv (AtK.repl hv t)
    · simp only [z, if_false]; exact .cons h (AtK.repl hv t)
theorem AtK.put {G : Hp} {k : Key} {v : V} {d : D} {vs : List (Key × V)} {es : List (Key × D)} (h : AtK K G vs es) (hv : At K G v d) : AtK K G (putK vs k v) (putD es k d) := by
  unfold putK putD
  rw [h.any (k := k)]
  split
  · exact AtK.repl hv h
  · exact h.app (.cons hv .nil)
/-- a key as a datum -/
def kD : Key → D
  | .inl i => .int i
  | .inr s => .str s
theorem at_key {G : Hp} {v : V} {k : Key} (h : At K G v (kD k)) : v = kV k := by
  cases k <;> (cases h; rfl)
theorem ed_dget {es : List (Key × D)} {x : Key} (h : ED ρ K ta δ (.dct es)) (hk : ED ρ K tb δ (kD x)) (hg : getD' es x = some d) : ED ρ K (tDGet ta tb) δ d := .mk fun G0 H0 G H σ m Q w hm q =>
  h.run G0 H0 G H σ m _ w hm fun e v G1 H1 m1 pd w1 g1 l1 a1 => by
    subst pd
    refine hk.run G0 H0 G1 H1 σ m1 _ w1 (by omega) fun e v2 G2 H2 m2 pd w2 g2 l2 a2 => ?_
    subst pd
    have a1' := a1.mono g2.gg
    have ek := at_key a2
    subst ek
    cases a1' with
    | @dct p kvs _ hp hl =>
      obtain ⟨v, e, av⟩ := (hl.get (k := x)).1 d hg
      refine ⟨p, v, rfl, ?_, q d v G2 H2 m2 rfl w2 (Gd.trans w1.pot g1 g2) (by omega) av⟩
      rw [← e]
      exact DGet.k (w2.gd.sub _ _ hp)
theorem ed_dgetO {es : List (Key × D)} {x : Key} (hi : δ[i]? = some (some (.own (.dct es)))) (hk : ED ρ K tb δ (kD x)) (hg : getD' es x = some d) : ED ρ K (tDGet (tVar i) tb) δ d := .mk fun G0 H0 G H σ m Q w hm q => by
  obtain ⟨v, e1, p, o, rfl, hp, ha, hg', h0⟩ := w.sl i _ hi
  refine ⟨_, e1, ?_⟩
  refine hk.run G0 H0 G H σ m _ w (by omega) fun e v2 G2 H2 m2 pd w2 g2 l2 a2 => ?_
  subst pd
  have ek := at_key a2
  subst ek
  have nr : Fx ρ p := fun z => (w.pot0 p z).1 h0
  cases ha with
  | @dct kvs _ hl =>
    obtain ⟨v, e, av⟩ := ((hl.mono g2.gg).get (k := x)).1 d hg
    refine ⟨p, v, rfl, ?_, q d v G2 H2 m2 rfl w2 g2 (by omega) av⟩
    rw [← e]
    exact DGet.k (g2.keep _ _ nr hp)
theorem ed_dnotin {es : List (Key × D)} {x : Key} (hk : ED ρ K tb δ (kD x)) (h : ED ρ K ta δ (.dct es)) : ED ρ K (tDNotIn tb ta) δ (.bl (!(getD' es x).isSome)) := .mk fun G0 H0 G H σ m Q w hm q =>
  hk.run G0 H0 G H σ m _ w hm fun e v G1 H1 m1 pd w1 g1 l1 a1 => by
    subst pd
    have ek := at_key a1
    subst ek
    refine h.run G0 H0 G1 H1 σ m1 _ w1 (by omega) fun e v2 G2 H2 m2 pd w2 g2 l2 a2 => ?_
    subst pd
    cases a2 with
    | @dct p kvs _ hp hl =>
      refine ⟨p, valV kvs x, rfl, DGet.k (w2.gd.sub _ _ hp), ?_⟩
      have e : (valV kvs x).isSome = (getD' es x).isSome := by
        obtain ⟨i1, i2⟩ := hl.get (k := x)
        cases z : getD' es x with
        | none => rw [i2 z]; rfl
        | some d =>
          obtain ⟨v, e, _⟩ := i1 d z
          rw [e]; rfl
      rw [e]
      exact q _ _ G2 H2 m2 rfl w2 (Gd.trans w1.pot g1 g2) (by omega) (.bl _)
theorem sj_dput {es : List (Key × D)} {x : Key} (hi : δ[i]? = some (some (.own (.dct es)))) (hv : EJ ρ K tc δ k1 P) (hk : ED ρ K tb δ (kD x)) (hl : es.length < 1000000) (hn : ∀ d, P d → SJ ρ K E u (δ.set i (some (.own (.dct (putD es x d))))) k2 PO) :
    SJ ρ K E (tSeq (sDPut (tVar i) tb tc) u) δ (k1 + k2) PO := .mk fun G0 H0 G H σ m D w hm q =>
  hv.run G0 H0 G H σ m _ w (by omega) fun d v G1 H1 m1 pd w1 g1 l1 av => by
    obtain ⟨v0, e1, p, o, rfl, hp, ha, hg', h0⟩ := w1.sl i _ hi
    refine ⟨_, e1, ?_⟩
    refine hk.run G0 H0 G1 H1 σ m1 _ w1 (by omega) fun e v2 G2 H2 m2 pe w2 g2 l2 a2 => ?_
    subst pe
    have ek := at_key a2
    subst ek
    have nr : Fx ρ p := fun z => (w1.pot0 p z).1 h0
    cases ha with
    | @dct kvs _ hkv =>
      have hkv' := hkv.mono g2.gg
      refine ⟨p, _, rfl, .inl ⟨kvs, x, g2.keep _ _ nr hp, rfl, by rw [hkv'.len]; exact Nat.lt_of_lt_of_le hl (by decide), rfl⟩, ?_⟩
      exact (hn d pd).run G0 H0 G2 _ σ m2 D (w2.chg hi e1 (.dct (hkv'.put (av.mono g2.gg)))) (by omega) fun o po => (q o po).le (by omega)
/-- {k: v} -/
theorem ed_disp {x : Key} (hk : ED ρ K ta δ (kD x)) (h : EJ ρ K te δ k P) : EN ρ K (tDisp [(ta, te)]) δ k (fun r => ∃ d, P d ∧ r = .dct [(x, d)]) := .mk fun G0 H0 G H σ m Q w hm q => fun p hp => by
  have g1 := Gd.alloc0 (o := HO.dK []) w.gd.sub hp
  have w1 := w.step g1.weak (w.pot.keep g1)
  have gn : G p = none := w.gd.sub.free hp
  have nr := w.rho hp
  show ta σ (L2.upd H p (HO.dK [])) _
  refine hk.run G0 H0 G _ σ m _ w1 (by omega) fun e v0 G2 H2 m2 pe w2 g2 l2 x0 => ?_
  subst pe
  have ek := at_key x0
  subst ek
  refine h.run G0 H0 G2 H2 σ m2 _ w2 (by omega) fun d v G' H' m' pd w' g l av => ?_
  obtain ⟨hd2, hg2⟩ := own_after g2 nr upd_same gn
  obtain ⟨hd, hgn⟩ := own_after g nr hd2 hg2
  refine ⟨hd, [(x, v)], rfl, Nat.le_of_ble_eq_true rfl, ?_⟩
  show Q (.ref p) (L2.upd H' p (HO.dK [(x, v)]))
  have g3 : Gd ρ G H G' (L2.upd H' p (HO.dK [(x, v)])) := (Gd.trans w2.pot (Gd.trans w1.pot g1.weak g2) g).upd hp hgn
  exact q _ p _ G' _ m' ⟨d, pd, rfl⟩ (w.step g3 (w'.pot.set (w.pot.fx hp) hd rfl)) g3 (by omega) hp upd_same (.dct (.cons av .nil)) hgn
/-- d.get(k, x) -/
theorem ed_dget2 {es : List (Key × D)} {x : Key} (h : ED ρ K ta δ (.dct es)) (hk : ED ρ K tb δ (kD x)) (hx : ED ρ K tc δ c) : ED ρ K (tDGet2 ta tb tc) δ ((getD' es x).getD c) := .mk fun G0 H0 G H σ m Q w hm q =>
  h.run G0 H0 G H σ m _ w hm fun e v G1 H1 m1 pd w1 g1 l1 a1 => by
    subst pd
    cases a1 with
    | @dct p kvs _ hp hl =>
      refine ⟨p, rfl, .inl ⟨kvs, .inl (w1.gd.sub _ _ hp)⟩, ?_⟩
      refine hk.run G0 H0 G1 H1 σ m1 _ w1 (by omega) fun e v2 G2 H2 m2 pd w2 g2 l2 a2 => ?_
      subst pd
      have ek := at_key a2
      subst ek
      refine hx.run G0 H0 G2 H2 σ m2 _ w2 (by omega) fun e v3 G3 H3 m3 pd w3 g3 l3 a3 => ?_
      subst pd
      have hl' := (hl.mono g2.gg).mono g3.gg
      refine ⟨valV kvs x, DGet.k (w3.gd.sub _ _ (g3.gg _ _ (g2.gg _ _ hp))), ?_⟩
      have g4 := Gd.trans w2.pot (Gd.trans w1.pot g1 g2) g3
      obtain ⟨i1, i2⟩ := hl'.get (k := x)
      cases z : getD' es x with
      | none =>
        rw [i2 z]
        exact q _ v3 G3 H3 m3 (by rw [z]; rfl) w3 g4 (by omega) a3
      | some d =>
        obtain ⟨v4, e4, a4⟩ := i1 d z
        rw [e4]
        exact q _ v4 G3 H3 m3 (by rw [z]; rfl) w3 g4 (by omega) a4
end
end DN

/-! ground 10: tuples read off what is one's own; dicts of pairs; items set -/
namespace DN
open PySem PySem.Spec PyProof.Rows L2
variable [Tb]
mutual
/-- atoms and tuples of such -/
def tupO : D → Bool
  | .non => true
  | .bl _ => true
  | .int _ => true
  | .str _ => true
  | .tup l => tupOL l
  | _ => false
def tupOL : List D → Bool
  | [] => true
  | d :: r => tupO d && tupOL r
end
def isLd : HO → Bool
  | .lst _ => true
  | .dK _ => true
  | .ins _ _ _ => true
  | _ => false
section
variable {ρ : Rh} {K : PySem.W.Frag} {E : XK} {δ δ' : Dl} {te ta tb tc : TE} {t u ts : TS} {tt tu : TT} {tA : TA} {k k1 k2 k3 : Nat} {P P1 P2 : D → Prop} {PO PO' : Out → Prop} {a b c d d0 : D} {i j : Nat} {X : Cx}
theorem at_thawT {G : Hp} {p : Addr} {o : HO} (hp : G p = some o) (ho : isLd o = true) {v : V} {d : D} (h : At K G v d) : tupO d = true → At K (thaw G p) v d :=
  At.rec (motive_1 := fun v d _ => tupO d = true → At K (thaw G p) v d) (motive_2 := fun vs ds _ => tupOL ds = true → AtL K (thaw G p) vs ds) (motive_3 := fun _ _ _ => True) (motive_4 := fun _ _ _ => True)
    (fun _ => .non) (fun b _ => .bl b) (fun i _ => .int i) (fun x _ => .str x)
    (fun {a xs ds} hs _ ih hq => .tup (by
      rcases hs with hs | hs
      · refine .inl ?_
        have n : a ≠ p := fun z => by
          subst z
          rcases hs with hs | ⟨o', hs⟩ <;> (rw [hp] at hs; cases hs; cases ho)
        rcases hs with hs | ⟨o', hs⟩
        · exact .inl (by rw [thaw_ne n]; exact hs)
        · exact .inr ⟨o', by rw [thaw_ne n]; exact hs⟩
      · exact .inr hs) (ih (by simpa [tupO] using hq)))
    (fun _ _ _ hp => by simp [tupO] at hp) (fun _ _ _ hp => by simp [tupO] at hp) (fun _ _ _ hp => by simp [tupO] at hp) (fun _ _ _ _ hp => by simp [tupO] at hp) (fun v hp => by simp [tupO] at hp) (fun _ hp => by simp [tupO] at hp) (fun _ _ _ hp => by simp [tupO] at hp)
    (fun _ => .nil) (fun {v vs d ds} _ _ i1 i2 hp => by
      have hp' : tupO d = true ∧ tupOL ds = true := by simpa [tupOL] using hp
      exact .cons (i1 hp'.1) (i2 hp'.2))
    trivial (fun _ _ _ _ => trivial) trivial (fun _ _ _ _ => trivial) h
theorem atL_thawT {G : Hp} {p : Addr} {o : HO} (hp : G p = some o) (ho : isLd o = true) : ∀ {vs : List V} {ds : List D}, AtL K G vs ds → tupOL ds = true → AtL K (thaw G p) vs ds
  | _, _, .nil, _ => .nil
  | _, _, .cons (d := d) (ds := ds) h t, e => by
    have e' : tupO d = true ∧ tupOL ds = true := by simpa [tupOL] using e
    exact .cons (at_thawT hp ho h e'.1) (atL_thawT hp ho t e'.2)
theorem OAt.ld {G : Hp} {o : HO} {d : D} (h : OAt K G o d) : isLd o = true := by cases h <;> rfl
theorem en_peekT (i : Nat) (hi : δ[i]? = some (some (.own d0))) (h : EN ρ K te (δ.set i (some (.val d0))) k P) (ha : ∀ d, P d → ∃ ds, d = .lst ds ∧ tupOL ds = true) : EN ρ K te δ k P := .mk fun G0 H0 G H σ m Q w hm q => by
  obtain ⟨p, o, hs, hp, hg, hoa, w'⟩ := w.froze hi
  refine h.run G0 H0 _ H σ m Q w' hm fun d r o2 G' H' m' pd w2 g l hr ho x hgr => ?_
  have g3 := g.thaw hg
  obtain ⟨ds, rfl, hf⟩ := ha d pd
  refine q _ r o2 _ H' m' pd (w.step g3 w2.pot) g3 l hr ho ?_ ?_
  · cases x with
    | lst hl => exact .lst (atL_thawT (g.gg _ _ upd_same) hoa.ld hl hf)
  · by_cases z : r = p
    · subst z; exact thaw_same
    · rw [thaw_ne z]; exact hgr
/-! dict(pairs) -/
def prD (q : Key × D) : D := .tup [kD q.1, q.2]
def mergeD : List (Key × D) → List (Key × D) → List (Key × D)
  | es, [] => es
  | es, q :: r => mergeD (putD es q.1 q.2) r
theorem merge_at {G : Hp} : ∀ {ps : List (Key × D)} {kvs ws : List (Key × V)} {es : List (Key × D)}, AtK K G kvs es → AtK K G ws ps → AtK K G (mergeK kvs ws) (mergeD es ps)
  | [], _, _, _, h, .nil => h
  | (k, d) :: r, kvs, _, es, h, .cons (v := v) hv t => merge_at (ps := r) (kvs := putK kvs k v) (es := putD es k d) (h.put hv) t
abbrev rDictP (K : PySem.W.Frag) : List V → Hp → VK → Prop := fun xs H Q => ∃ (a : Addr) (ps : List Addr) (kvs : List (Key × V)), xs = [.ref a] ∧ SqL K H a (ps.map V.ref) ∧ Paired (fun p kv => SqT K H p [kV kv.1, kv.2]) ps kvs ∧ ∀ p, H p = none → Q (.ref p) (upd H p (.dK (mergeK [] kvs)))
theorem pairs_at {G H : Hp} (s : Same G H) : ∀ {qs : List (Key × D)} {xs : List V}, AtL K G xs (qs.map prD) → ∃ (ps : List Addr) (kvs : List (Key × V)), xs = ps.map V.ref ∧ Paired (fun p kv => SqT K H p [kV kv.1, kv.2]) ps kvs ∧ AtK K G kvs qs
  | [], _, .nil => ⟨[], [], rfl, .nil, .nil⟩
  | (k, d) :: r, _, .cons h t => by
    obtain ⟨ps, kvs, rfl, h1, h2⟩ := pairs_at s t
    cases h with
    | @tup p ys _ hp hl =>
      cases hl with
      | cons a1 hl =>
        cases hl with
        | cons a2 hl =>
          cases hl
          have e := at_key a1
          subst e
          exact ⟨p :: ps, (k, _) :: kvs, rfl, .cons (Same.sqT s hp) h1, .cons a2 h2⟩
theorem en_dictP {qs : List (Key × D)} (h : ED ρ K te δ (.lst (qs.map prD))) : EN ρ K (tCB (rDictP K) (tCons te tNil)) δ 0 (· = .dct (mergeD [] qs)) := .mk fun G0 H0 G H σ m Q w hm q =>
  h.run G0 H0 G H σ m _ w hm fun d v G1 H1 m1 pd w1 g1 l1 x => by
    subst pd
    cases x with
    | @lst a xs _ ha hl =>
      obtain ⟨ps, kvs, rfl, h1, h2⟩ := pairs_at w1.gd.sub hl
      exact ⟨a, ps, kvs, rfl, .inl (.inl (w1.gd.sub _ _ ha)), h1, en_fin w w1 g1 (.dct (merge_at .nil h2)) fun p o G' H' m' w' g' l' => q _ p o G' H' m' rfl w' g' (by omega)⟩
/-! tables that came to be known anew are forgotten -/
open Classical in
noncomputable def strip (H H' : Hp) : Hp := fun b => if H b = none ∧ ∃ ps, H' b = some (.tbl ps) then none else H' b
theorem strip_nt {H H' : Hp} {b : Addr} {o : HO} (h : H' b = some o) (ho : Nt o) : strip H H' b = some o := by
  unfold strip
  rw [if_neg (fun z => by obtain ⟨_, ps, e⟩ := z; rw [h] at e; exact ho ps (Option.some.inj e))]
  exact h
theorem strip_old {H H' : Hp} {b : Addr} (h : H b ≠ none) : strip H H' b = H' b := by
  unfold strip
  rw [if_neg (fun z => h z.1)]
theorem strip_of {H H' : Hp} {b : Addr} {o : HO} (h : strip H H' b = some o) : H' b = some o := by
  unfold strip at h
  split at h
  · cases h
  · exact h
theorem strip_only {H H' : Hp} (h : OnlyT H) (k : ∀ b o, H b = some o → Nt o → ∃ o', H' b = some o' ∧ Nt o') : OnlyT (strip H H') := fun on b ps e => by
  cases q : H b with
  | none =>
    exfalso
    have e' := strip_of e
    unfold strip at e
    rw [if_pos ⟨q, ps, e'⟩] at e
    cases e
  | some o =>
    by_cases z : ∃ ps', o = .tbl ps'
    · obtain ⟨ps', rfl⟩ := z
      exact h on b ps' q
    · obtain ⟨o', h1, h2⟩ := k b o q fun ps' y => z ⟨ps', y⟩
      rw [strip_of e] at h1
      exact absurd (Option.some.inj h1).symm (h2 ps)
theorem inv_strip {pins : List (Addr × Obj)} {σ : L2.St} {H H' : Hp} {s s' : Shared} (I : Inv X pins σ H s) (J : Inv X pins σ H' s') : Inv X pins σ (strip H H') s' where
  ok := J.ok
  os := J.os
  bare := J.bare
  base := {
    keep := J.base.keep
    slot := J.base.slot
    free := fun b o e n x => by
      have y := J.base.free b o e n x
      cases z : strip H H' b with
      | none => rfl
      | some u => rw [strip_of z] at y; cases y
    there := J.base.there
    tups := fun b xs e => strip_nt (J.base.tups b xs e) (by (intro _ z; cases z))
    frzs := fun b o u e => strip_nt (J.base.frzs b o u e) (by (intro _ z; cases z))
    tbls := fun b ps e => by
      obtain ⟨m1, e1⟩ := I.base.tbls b ps e
      obtain ⟨m2, e2⟩ := J.base.tbls b ps e
      exact ⟨m2, by rw [strip_old (by rw [e1]; simp)]; exact e2⟩ }
  loc := J.loc
  cell := J.cell
  free := by
    cases z : strip H H' X.env.locals with
    | none => rfl
    | some u => have y := J.free; rw [strip_of z] at y; cases y
  freeC := fun x c e => by
    cases z : strip H H' c with
    | none => rfl
    | some u => have y := J.freeC x c e; rw [strip_of z] at y; cases y
  pin := fun p hp => by
    obtain ⟨h1, h2, h3⟩ := J.pin p hp
    refine ⟨h1, ?_, h3⟩
    cases z : strip H H' p.1 with
    | none => rfl
    | some u => rw [strip_of z] at h2; cases h2
  hok := fun b u e => (J.hok b u (strip_of e)).stay (fun d v _ y => y) (fun d y => strip_nt y (by (intro _ z; cases z))) (fun d xs y => strip_nt y (by (intro _ z; cases z)))
  len := J.len
noncomputable def tS (te : TE) : TE := fun σ H Q => te σ H fun v H' => Q v (strip H H')
theorem pe_strip {e : Expr} {te : TE} (h : PE X e te) : PE X e (tS te) := ⟨fun pins s σ H Q I q => by
  refine thn (h.run pins s σ H _ I q) fun u s' ⟨v, H', J, r, q'⟩ => ⟨v, strip H H', inv_strip I J, r, q'⟩⟩
/-! list(d.items()) -/
theorem atK_pairs {G' H' : Hp} (hs : ∀ (t : Addr) (o : HO), H' t = some o → True) : ∀ {es : List (Key × D)} {kvs : List (Key × V)} {ts : List Addr}, AtK K G' kvs es → Paired (fun (t : Addr) (q : Key × V) => G' t = some (.tup [kV q.1, q.2])) ts kvs → AtL K G' (ts.map V.ref) (es.map prD)
  | [], _, _, .nil, .nil => .nil
  | (k, d) :: r, _, _, .cons hv t, .cons hp tp => .cons (.tup (.inl (.inl hp)) (.cons (by cases k <;> constructor) (.cons hv .nil))) (atK_pairs hs t tp)
theorem paired_mono {α β : Type} {F F' : α → β → Prop} : ∀ {xs : List α} {ys : List β}, Paired F xs ys → (∀ x ∈ xs, ∀ y, F x y → F' x y) → Paired F' xs ys
  | _, _, .nil, _ => .nil
  | _, _, .cons h t, hf => .cons (hf _ (List.mem_cons_self ..) _ h) (paired_mono t fun x hx => hf x (List.mem_cons_of_mem _ hx))
theorem ed_items {es : List (Key × D)} (hi : δ[i]? = some (some (.val (.dct es)))) : ED ρ K (tS (LiI.tListItems (tVar i))) δ (.lst (es.map prD)) := .mk fun G0 H0 G H σ m Q w hm q => by
    obtain ⟨v, hv, x⟩ := w.sl i _ hi
    have w1 := w
    have g1 : Gd ρ G H G H := Gd.refl w.gd.sub
    cases x with
    | @dct a kvs _ ha hl =>
      refine ⟨_, hv, a, kvs, rfl, w.gd.sub _ _ ha, fun H'' p ts hk0 hp hts hpn hp0 hts0 => ?_⟩
      obtain ⟨H', eH⟩ : ∃ H', H' = strip H H'' := ⟨_, rfl⟩
      have hk : Same H H' := fun b o e => by
        rw [eH, strip_old (b := b) (by rw [e]; simp)]
        exact hk0 b o e
      have hot : OnlyT H' := by
        rw [eH]
        exact strip_only w.pot.only fun b o e ho => ⟨o, hk0 b o e, ho⟩
      have hp' : H' p = some (.lst (ts.map V.ref)) := by rw [eH]; exact strip_nt hp0 (by (intro _ z; cases z))
      have hts' : Paired (fun (t : Addr) (q : Key × V) => H' t = some (.tup [kV q.1, q.2])) ts kvs := paired_mono hts0 fun x _ y e => by rw [eH]; exact strip_nt e (by (intro _ z; cases z))
      show Q (.ref p) (strip H H'')
      rw [← eH]
      let G2 : Hp := fun b => if b = p ∨ b ∈ ts then H' b else G b
      have gnew : ∀ b, (b = p ∨ b ∈ ts) → H b = none := fun b hb => by
        rcases hb with rfl | hb
        · exact hp
        · exact hts b hb
      have gg : Same G G2 := fun b o e => by
        have hn : ¬ (b = p ∨ b ∈ ts) := fun z => by rw [w1.gd.sub.free (gnew b z)] at e; cases e
        show (if b = p ∨ b ∈ ts then H' b else G b) = some o
        rw [if_neg hn]; exact e
      have sub : Same G2 H' := fun b o e => by
        by_cases z : b = p ∨ b ∈ ts
        · have e' : (if b = p ∨ b ∈ ts then H' b else G b) = some o := e
          rw [if_pos z] at e'; exact e'
        · have e' : (if b = p ∨ b ∈ ts then H' b else G b) = some o := e
          rw [if_neg z] at e'
          exact hk b o (w1.gd.sub b o e')
      have g2 : Gd .none G H G2 H' := ⟨fun b o _ e => hk b o e, gg, sub, fun b e => by
        by_cases z : b = p ∨ b ∈ ts
        · exact .inr (gnew b z)
        · have e' : (if b = p ∨ b ∈ ts then H' b else G b) ≠ none := e
          rw [if_neg z] at e'; exact .inl e', fun _ => hot⟩
      have gp : G2 p = some (.lst (ts.map V.ref)) := by
        show (if p = p ∨ p ∈ ts then H' p else G p) = _
        rw [if_pos (.inl rfl)]; exact hp'
      refine q _ (.ref p) G2 H' m rfl (w1.step g2.weak (w1.pot.keep g2)) (Gd.trans w1.pot g1 g2.weak) (Nat.le_refl _) (.lst gp ?_)
      refine atK_pairs (H' := H') (fun _ _ _ => trivial) (AtK.mono gg hl) (paired_mono hts' fun t ht y e => ?_)
      show (if t = p ∨ t ∈ ts then H' t else G t) = _
      rw [if_pos (.inr ht)]; exact e
/-! x[i] = e -/
theorem ixN_nat {n l : Nat} (h : n < l) : ixN l (n : Int) = some n := by
  unfold ixN
  rw [if_pos (by omega), if_pos (by omega)]
  simp
theorem AtL.set {G : Hp} {v : V} {d : D} (hv : At K G v d) : ∀ {vs : List V} {ds : List D} (n : Nat), AtL K G vs ds → AtL K G (vs.set n v) (ds.set n d)
  | _, _, n, .nil => by simpa using AtL.nil
  | _, _, 0, .cons _ t => by simpa using AtL.cons hv t
  | _, _, n + 1, .cons h t => by simpa using AtL.cons h (AtL.set hv n t)
theorem sj_setItem {ds : List D} {n : Nat} (hi : δ[i]? = some (some (.own (.lst ds)))) (hv : EJ ρ K te δ k1 P) (hk : ED ρ K tb δ (.int (n : Int))) (hl : n < ds.length) (hn : ∀ d, P d → SJ ρ K E u (δ.set i (some (.own (.lst (ds.set n d))))) k2 PO) :
    SJ ρ K E (tSeq (tAsg te (gSub (tVar i) tb rSetL)) u) δ (k1 + k2) PO := .mk fun G0 H0 G H σ m D w hm q =>
  hv.run G0 H0 G H σ m _ w (by omega) fun d v G1 H1 m1 pd w1 g1 l1 av => by
    obtain ⟨v0, e1, p, o, rfl, hp, ha, hg', h0⟩ := w1.sl i _ hi
    refine ⟨_, e1, ?_⟩
    refine hk.run G0 H0 G1 H1 σ m1 _ w1 (by omega) fun e v2 G2 H2 m2 pe w2 g2 l2 a2 => ?_
    subst pe
    cases a2
    have nr : Fx ρ p := fun z => (w1.pot0 p z).1 h0
    cases ha with
    | @lst xs _ hx =>
      have hx' := hx.mono g2.gg
      refine ⟨p, xs, (n : Int), n, rfl, rfl, g2.keep _ _ nr hp, ixN_nat (by rw [hx'.len]; exact hl), ?_⟩
      exact (hn d pd).run G0 H0 G2 _ σ m2 D (w2.chg hi e1 (.lst (AtL.set (av.mono g2.gg) n hx'))) (by omega) fun o po => (q o po).le (by omega)
/-! min of ints -/
theorem ej_min {ns : List Int} (h : ED ρ K te δ (.lst (ns.map D.int))) (h0 : 0 < ns.length) : EJ ρ K (tCB (rMin K) (tCons te tNil)) δ 0 (fun d => ∃ m, d = .int m ∧ m ∈ ns ∧ ∀ y ∈ ns, m ≤ y) := .mk fun G0 H0 G H σ m Q w hm q =>
  h.run G0 H0 G H σ m _ w hm fun d v G1 H1 m1 pd w1 g1 l1 x => by
    subst pd
    cases x with
    | @lst a xs _ ha hl =>
      have e := hl.ints
      subst e
      exact ⟨a, ns, rfl, .inl (.inl (w1.gd.sub _ _ ha)), h0, fun mm hmem hle => q _ _ G1 H1 m1 ⟨mm, rfl, hmem, hle⟩ w1 g1 l1 (.int _)⟩
end
end DN

/-! ground 11: dicts written out, slices of what is drawn -/
namespace DN
open PySem PySem.Spec PyProof.Rows L2
variable [Tb]
/-- the entries of a dict that is written out -/
structure PJ (ρ : Rh) (K : PySem.W.Frag) (trs : List (TE × TE)) (δ : Dl) (k : Nat) (P : List (Key × D) → Prop) : Prop where
  run : ∀ (G0 H0 G H : Hp) (σ : L2.St) (m : Nat) (Q : List (V × V) → Hp → Prop), Wf ρ K G0 H0 G H σ δ m → m + k ≤ Mx →
    (∀ es kvs G' H' m', P es → Wf ρ K G0 H0 G' H' σ δ m' → Gd ρ G H G' H' → m' ≤ m + k → AtK K G' kvs es → Q (kvs.map fun kv => (kV kv.1, kv.2)) H') → tPairs trs σ H Q
section
variable {ρ : Rh} {K : PySem.W.Frag} {E : XK} {δ δ' : Dl} {te ta tb tc : TE} {trs : List (TE × TE)} {k k1 k2 k3 : Nat} {P P1 : D → Prop} {PE PR : List (Key × D) → Prop} {a b c d d0 : D} {i j : Nat}
theorem AtK.mono' {G G' : Hp} (e : Same G G') {vs : List (Key × V)} {es : List (Key × D)} (h : AtK K G vs es) : AtK K G' vs es := h.mono e
theorem pj_nil : PJ ρ K [] δ 0 (· = []) := .mk fun G0 H0 G H σ m Q w hm q => q [] [] G H m rfl w (Gd.refl w.gd.sub) (Nat.le_refl _) .nil
theorem pj_cons {x : Key} (hk : ED ρ K ta δ (kD x)) (hv : EJ ρ K tb δ k1 P) (hr : ∀ d, P d → PJ ρ K trs δ k2 PR) (h : ∀ d es, P d → PR es → PE ((x, d) :: es)) : PJ ρ K ((ta, tb) :: trs) δ (k1 + k2) PE := .mk fun G0 H0 G H σ m Q w hm q => by
  show ta σ H _
  refine hk.run G0 H0 G H σ m _ w (by omega) fun e v1 G1 H1 m1 pe w1 g1 l1 a1 => ?_
  subst pe
  have ek := at_key a1
  subst ek
  refine hv.run G0 H0 G1 H1 σ m1 _ w1 (by omega) fun d v G2 H2 m2 pd w2 g2 l2 a2 => ?_
  refine (hr d pd).run G0 H0 G2 H2 σ m2 _ w2 (by omega) fun es kvs G3 H3 m3 pes w3 g3 l3 a3 => ?_
  exact q ((x, d) :: es) ((x, v) :: kvs) G3 H3 m3 (h d es pd pes) w3 (Gd.trans w2.pot (Gd.trans w1.pot g1 g2) g3) (by omega) (.cons (a2.mono g3.gg) a3)
theorem en_disp (h : PJ ρ K trs δ k PE) (hl : ∀ es, PE es → es.length ≤ 15) (hp : ∀ es, PE es → P (.dct (mergeD [] es))) : EN ρ K (tDisp trs) δ k P := .mk fun G0 H0 G H σ m Q w hm q => fun p hp0 => by
  have g1 := Gd.alloc0 (o := HO.dK []) w.gd.sub hp0
  have w1 := w.step g1.weak (w.pot.keep g1)
  have gn : G p = none := w.gd.sub.free hp0
  have nr := w.rho hp0
  refine h.run G0 H0 G _ σ m _ w1 hm fun es kvs G' H' m' pe w' g l ak => ?_
  obtain ⟨hd, hgn⟩ := own_after g nr upd_same gn
  refine ⟨hd, kvs, rfl, by rw [ak.len]; exact hl es pe, ?_⟩
  have g3 : Gd ρ G H G' (L2.upd H' p (HO.dK (mergeK [] kvs))) := (Gd.trans w1.pot g1.weak g).upd hp0 hgn
  exact q _ p _ G' _ m' (hp es pe) (w.step g3 (w'.pot.set (w.pot.fx hp0) hd rfl)) g3 (by omega) hp0 upd_same (.dct (merge_at .nil ak)) hgn
theorem en_slP {PL : List D → Prop} {n : Nat} {th : TO} (h : EJ ρ K te δ k (fun d => ∃ ds, d = .lst ds ∧ PL ds)) (hh : EO ρ K th δ (some (n : Int))) (hp : ∀ ds, PL ds → P (.lst (ds.take n))) : EN ρ K (tSl (rSlL K) te tNoPart th) δ k P := .mk fun G0 H0 G H σ m Q w hm q =>
  (h).run G0 H0 G H σ m _ w hm fun d v G1 H1 m1 px w1 g1 l1 ax => by
    obtain ⟨ds, rfl, pl⟩ := px
    refine (hh).run G0 H0 G1 H1 σ m1 _ w1 (by omega) fun G3 H3 m3 w3 g3 l3 => ?_
    have ax2 := ax.mono g3.gg
    cases ax2 with
    | @lst p xs _ hp' hpl =>
      refine ⟨p, xs, rfl, .inl (.inl (w3.gd.sub _ _ hp')), en_fin w w3 (Gd.trans w1.pot g1 g3) (.lst (hpl.cut none (some (n : Int)))) fun p o G' H' m' w' g' l' => q _ p o G' H' m' ?_ w' g' (by omega)⟩
      have e : (ds.drop (HT.sIx ds.length 0 none)).take (HT.sIx ds.length ds.length (some (n : Int)) - HT.sIx ds.length 0 none) = ds.take n := by
        unfold HT.sIx
        simp only
        rw [if_neg (by omega), List.drop_zero, Nat.sub_zero, Int.toNat_natCast]
        by_cases z : n ≤ ds.length
        · rw [Nat.min_eq_left z]
        · rw [Nat.min_eq_right (by omega), List.take_of_length_le (Nat.le_refl _), List.take_of_length_le (by omega)]
      rw [e]
      exact hp ds pl
end
end DN
namespace DN
open PySem PySem.Spec PyProof.Rows L2
variable [Tb]
/-- a built-in's method, where the reading names the fragment itself -/
theorem pe_bmK {X : Cx} (K : PySem.W.Frag) {o e : Expr} {es : List Expr} {to : TE} {t : TA} {name : Str} {apos cpos : Pos} {T id : String} {r : V → List V → Hp → VK → Prop} (hK : X.K = K) (h1 : PlainAttrs T) (h2 : Slot T name id)
    (h3 : typeOf (Value.builtin id) = pure (Value.type "method_descriptor")) (h4 : MtR X id r) (ho : PE X o to) (ha : PA X (e :: es) t) (a1 : attributeBase o name X.env (eval o X.env) = eval o X.env := by rfl)
    (a2 : (((((backTo cpos (starEach (e :: es) X.env)).all fun x => !x.fst) && (backToKw cpos (keywordEach [] X.env)).all fun x => x.fst.isSome) && decide (((e :: es).length + ([] : List (Option Str × Expr)).length + if ([] : List (Option Str × Expr)).isEmpty = true then 0 else 1) < 30)) = true) := by rfl)
    (a3 : (apos.endLine == cpos.line) = true := by rfl) (a4 : starEach (e :: es) X.env = (false, eval e X.env) :: starEach es X.env := by rfl) (a5 : ((backTo cpos (starEach es X.env)).any fun x => x.fst) = false := by rfl) :
    PE X ((o.Attribute name apos).Call (e :: es) [] cpos) (tBM K T r to t) := by
  subst hK
  exact pe_bm h1 h2 h3 h4 ho ha a1 a2 a3 a4 a5
abbrev rJoin (K : PySem.W.Frag) : V → List V → Hp → VK → Prop := fun x xs H Q => ∃ a p, ∃ ys : List Str, x = .str a ∧ xs = [.ref p] ∧ (SqL K H p (ys.map V.str) ∨ SqT K H p (ys.map V.str)) ∧ (ys.map (·.length)).sum + ys.length * a.length ≤ 16777216 ∧ Q (.str (Txt.join a ys)) H
theorem mt_joinK {X : Cx} (K : PySem.W.Frag) (hK : X.K = K) : MtR X "str.join" (rJoin K) := by
  subst hK
  exact mt_join
theorem ed_join {ρ : Rh} {K : PySem.W.Frag} {δ : Dl} {te : TE} {a : Str} {ys : List Str} (h : ED ρ K te δ (.lst (ys.map D.str))) (hl : (ys.map (·.length)).sum + ys.length * a.length ≤ 16000000) : ED ρ K (tBM K "str" (rJoin K) (tC (.str a)) (tCons te tNil)) δ (.str (Txt.join a ys)) :=
  ej_bm (P1 := (· = .str a)) (PA := (· = [.lst (ys.map D.str)])) ed_str (fun _ _ => eda_cons h eda_nil) (fun d v G H e x s => by
    subst e
    cases x
    rfl) (fun d ds e1 e2 => by
    subst e1 e2
    refine ⟨_, rfl, fun x xs G H Q hx hxs s q => ?_⟩
    cases hx
    cases hxs with
    | cons hy r =>
      cases r
      cases hy with
      | @lst p vs _ hp hl2 =>
        have e := hl2.strs
        subst e
        exact ⟨a, p, ys, rfl, rfl, .inl (.inl (.inl (s _ _ hp))), Nat.le_trans hl (by decide), q _ G H (Gd.refl s) (.str _)⟩)
end DN

/-! rules that the hand layer lacks: a star in a target, enumerate with start, len of an own object, attributes as targets -/
namespace DN
open PySem PySem.Spec PyProof.Rows L2
variable [Tb]
section
variable {prog : Program} {w : World} {A : Around} {E : Value → Shared → Prop} {s : Shared}
theorem unpack_star1 {l : Addr} {items : Array Value} {x : Value} {r : List Value} {Q : List Value → Shared → Prop} (hl : s.heap.IsList l items) (hh : A.handled = none) (e : items.toList = x :: r) (hz : items.size ≤ sizeLine)
    (h : ∀ (h' : Heap) (tk : Nat), (∀ b o, s.heap.get? b = some o → h'.get? b = some o) → Q [x, .ref h'.objs.size] { s with heap := h'.push { cls := .type "list", data := .seq r.toArray }, toks := tk }) :
    wpAny (model prog w) A (unpackItems (.ref l) 2 (some 1)) Q E s := by
  have hlt : l ≠ s.heap.objs.size := by obtain ⟨o, ho, _⟩ := hl; exact Nat.ne_of_lt (Heap.lt_size ho)
  have hn : items.size = r.length + 1 := by rw [← Array.length_toList, e, List.length_cons]
  unfold unpackItems
  refine wpAny_bind ?_
  unfold notIterableAtAll
  refine wpAny_bind (wpAny_specialOf hl.typeIs slot_list_iter.lookup ?_)
  refine wpAny_pure ?_
  simp only [Bool.false_eq_true, if_false]
  refine wpAny_bind (wpAny_holding (wpAny_pyIter_list hl ?_))
  refine wpAny_bind (wpAny_holding (PySem.W.kun_draw hlt 1 0 _ _ ⟨_, Heap.get?_push_size _ rfl, rfl, rfl⟩ (hl.push _) (by omega) fun h₁ hit₁ hs₁ => ?_))
  have hl₁ : h₁.IsList l items := (hl.push _).extBut hs₁.extBut hlt
  rw [Nat.zero_add] at hit₁
  have hit₁' := hit₁
  obtain ⟨oi, hoi, _⟩ := hit₁'
  have hl₁' := hl₁
  obtain ⟨ol, hol, _⟩ := hl₁'
  rw [List.drop_zero]
  have hf : items.toList.take 1 = [x] := by rw [e]; rfl
  have hd : items.toList.drop 1 = r := by rw [e]; rfl
  rw [hf]
  rw [if_neg (show ¬ ([x].length < 1) by simp)]
  refine wpAny_bind (wpAny_holding (PySem.W.kun_collect (s := { s with heap := h₁ }) (T := "list_iterator") (.inr (.inr (.inl rfl))) (Walks.list (A := A.in1) hh s.heap.objs.size l hlt items) (fun j u st => st.1.typeIs) (k := 1) (by omega) ⟨hit₁, hl₁⟩ (Heap.lt_size hoi) (Heap.lt_size hol) (fun h₂ tk hk => ?_) hz))
  rw [hd]
  show wpAny _ _ (if r.length < 0 then _ else _) _ _ _
  rw [if_neg (by omega)]
  show wpAny _ _ (newList (r.take (r.length - 0)) >>= fun d => pure ([x] ++ [d] ++ r.drop (r.length - 0))) _ _ _
  rw [Nat.sub_zero, List.take_length, List.drop_length]
  refine wpAny_bind (wpAny_newList (wpAny_pure (h h₂ tk fun b o e => hk b o (Nat.ne_of_lt (Heap.lt_size e)) (hs₁.extBut b o (Nat.ne_of_lt (Heap.lt_size e)) (Heap.get?_push_of_some _ e)))) (by omega))
end
section
variable {X : Cx} {e1 e2 : Expr} {sp pos : Pos} {k : Nat} {t : TGs}
/-- x, *rest = a list -/
def gStar (K : PySem.W.Frag) (t : TGs) : TG := fun v σ H Q => ∃ a x xs, v = .ref a ∧ SqL K H a (x :: xs) ∧ ∀ d, H d = none → t [x, .ref d] σ (upd H d (.lst xs)) Q
theorem pg_star (hc : X.calm = true) (h : PGs X [e1, e2] t) (hl : (assignEach [e1, .Starred e2 sp] X.env).length = 2 := by rfl) (hst : (assignEach [e1, .Starred e2 sp] X.env).findIdx? (·.1) = some 1 := by rfl)
    (he : (assignEach [e1, .Starred e2 sp] X.env).map (·.2) = (assignEach [e1, e2] X.env).map (·.2) := by rfl) : PG X (.Tuple [e1, .Starred e2 sp] k pos) (gStar X.K t) := by
  refine ⟨fun pins s σ H v u Q I r hw => ?_⟩
  obtain ⟨a, x, xs, rfl, hq, hw⟩ := hw
  cases r
  obtain ⟨its, rv, ht, hz⟩ := I.list hq
  cases rv with
  | @cons _ u0 _ us r1 rr =>
    rw [assign_Tuple]
    refine wpAny_bind (wpAny_standAt ?_)
    unfold unpack
    rw [hl, hst, he]
    have hzs : (u0 :: us).toArray.size ≤ sizeLine := by
      rw [List.size_toArray, List.length_cons, ← rr.length]
      simpa using hz
    refine wpAny_bind (wpAny_holding (unpack_star1 ht.isList (I.ok.hd hc) (x := u0) (r := us) (by simp) hzs fun h' tk hk => ?_))
    have I1 : Inv X pins σ H { s with heap := h', toks := tk } := I.kept (t' := tk) hk
    have hf : H h'.objs.size = none := I1.hok.fresh (Nat.le_refl _)
    have I2 := I1.laid (t' := tk) (a := h'.objs.size) (o := .lst xs) (fun b u q => Heap.get?_push_of_some _ q) (Nat.le_refl _) ⟨by
      have := hz
      simp only [List.length_cons] at this
      omega, us, 0, rr, Heap.get?_push_size _ rfl⟩
    exact h.run pins _ σ _ _ _ Q I2 (show Vals [x, V.ref h'.objs.size] [u0, Value.ref h'.objs.size] from .cons r1 (.cons rfl .nil)) (hw _ hf)
end
/-! enumerate(list, start=c) -/
def IteS (K : PySem.W.Frag) (a : Addr) (c : Int) : It :=
  ⟨fun i H => ∃ (xs : List V) (x : V), SqL K H a xs ∧ xs[i]? = some x, fun i H v H' => ∃ T x, v = .ref T ∧ H T = none ∧ H' = upd H T (.tup [.int (c + (i : Nat)), x]) ∧ ∀ xs, SqL K H a xs → xs[i]? = some x, fun i H => ∃ xs : List V, SqL K H a xs ∧ xs.length ≤ i⟩
theorem turn_enumS {P : Program} {w : World} {K : PySem.W.Frag} {elts : List Expr} {kk : Nat} {tpos : Pos} (a e it : Addr) (c : Int) (hai : a ≠ it) (hae : e ≠ a) :
    L2.Turn P w K (.Tuple elts kk tpos) (IteS K a c) [e, it] e (fun i h => (∃ old, IsEnum h e it (c + ((i : Nat) : Int)) old) ∧ h.IsListIter it a i ∧ e ≠ it) where
  mem := by simp
  obj := fun i h st b hb => by
    obtain ⟨⟨old, he⟩, ⟨o, ho, hc, hd⟩, _⟩ := st
    have e' : b = e ∨ b = it := by simpa using hb
    rcases e' with z | z
    · rw [z]; exact ⟨_, he, fun v q => nomatch q⟩
    · rw [z]; exact ⟨o, ho, fun v q => by rw [hd] at q; cases q⟩
  keep := fun i h h' st k => let ⟨⟨old, he⟩, hi, hne⟩ := st; ⟨⟨old, k e (by simp) _ he⟩, hi.at fun o q => k it (by simp) o q, hne⟩
  item := by
    intro X hP hw hK hc i pins s σ H E I hf st hg
    subst hP hw hK
    obtain ⟨⟨old, he⟩, hit, hne⟩ := st
    obtain ⟨xs, x, hq, hx⟩ := hg
    obtain ⟨its, rv, p, hz⟩ := I.list hq
    obtain ⟨u, hu, ru⟩ := rv.get hx
    have hel : e < s.heap.objs.size := Heap.lt_size he
    have hil : it < s.heap.objs.size := by obtain ⟨_, q, _⟩ := hit; exact Heap.lt_size q
    have hlt : i < its.toArray.size := by
      have := (List.getElem?_eq_some_iff.mp hu).1
      simpa using this
    have hh : X.A.handled = none := I.ok.hd hc
    refine wpAny_pyNext_enum_itemC (Draws.list (A := X.A.in1) hh it a hai its.toArray) he ⟨hit, p.isList⟩ hlt hne (by simp [hne, hae]) fun x' h' tk hP ho hit' hT hsz hk => ?_
    have hu2 : x' = u := by
      have : its.toArray[i]? = some u := by simpa using hu
      have q : its.toArray[i]? = some x' := hP
      rw [this] at q
      exact (Option.some.inj q).symm
    subst hu2
    obtain ⟨hit', _⟩ := hit'
    refine ⟨_, rfl, wpAny_letOwnedTupleGo_enum (s := { s with heap := h', toks := tk + 1 }) ho fun h'' he' sb => ?_⟩
    have hT2 : h''.get? s.heap.objs.size = some { cls := .type "tuple", data := .seq #[.int (c + ((i : Nat) : Int)) tk, x'] } := (sb.2 _ (Nat.ne_of_gt hel)).trans hT
    have new : ObjOk X.prog X.w (upd H s.heap.objs.size (.tup [.int (c + (i : Nat)), x])) h'' s.heap.objs.size (.tup [.int (c + (i : Nat)), x]) :=
      ⟨by show 2 ≤ sizeLine; decide, [.int (c + ((i : Nat) : Int)) tk, x'], .cons ⟨_, rfl⟩ (.cons ru .nil), ⟨_, hT2, rfl, _, rfl⟩⟩
    have I1 : Inv X pins σ (upd H s.heap.objs.size (.tup [.int (c + (i : Nat)), x])) { s with heap := h'', toks := tk + 1 } :=
      I.turnedNew (ch := [e, it]) (fun b ob hb q => (sb.2 b (fun z => hb (by simp [z]))).trans (hk b ob (fun z => hb (by simp [z])) (fun z => hb (by simp [z])) q)) hf (Nat.le_refl _) new
    refine ⟨.ref s.heap.objs.size, _, I1, rfl, ⟨_, x, rfl, I.hok.fresh (Nat.le_refl _), rfl, fun ys hy => by rw [I.list_inj hy hq]; exact hx⟩, ⟨⟨x', ?_⟩, hit'.at fun o q => (sb.2 it (Ne.symm hne)).trans q, hne⟩, fun b hb => ?_⟩
    · have e1 : c + ((i + 1 : Nat) : Int) = c + (i : Int) + 1 := by omega
      rw [e1]; exact he'
    · have hb' : b < s.heap.objs.size := by
        have e' : b = e ∨ b = it := by simpa using hb
        rcases e' with z | z
        · rw [z]; exact hel
        · rw [z]; exact hil
      rw [upd_ne (Nat.ne_of_lt hb')]
      exact (hf b hb).1
  done := by
    intro X hP hw hK hc i pins s σ H E I hf st hg
    subst hP hw hK
    obtain ⟨⟨old, he⟩, hit, hne⟩ := st
    obtain ⟨xs, hq, hx⟩ := hg
    obtain ⟨its, rv, p, hz⟩ := I.list hq
    obtain ⟨f0, f1, f2, f3, f4, f5⟩ := hf it (by simp)
    have hl := rv.length
    have hT : s.TypeIs (.ref e) "enumerate" := ⟨_, he, rfl⟩
    unfold pyNext
    refine wpAny_bind (wpAny_attempt (wpAny_callSpecial?_slot (name := Str.ofString "__next__") hT F.slot_enumerate_next
      (wpAny_call_entry F.slot_enumerate_next hT F.entry_enumerate_next ?_ (F.args_enumerate_next_1 _))))
    show wpAny _ _ (field (.ref e) 2 >>= _) _ _ _
    refine wpAny_bind (wpAny_field he rfl (x := .ref it) rfl ?_)
    refine wpAny_bind (wpAny_nextOf_list_end (I.ok.hd hc) hit p.isList (by simp; omega) fun h' x he' hx' => ?_)
    obtain ⟨o, ho, hc'⟩ := hx'
    refine wpAny_bind (wpAny_isInstance (T := "StopIteration") (b := true) ⟨o, ho, hc'⟩ isSubtype_stop ?_)
    exact wpAny_pure ⟨rfl, I.turned (t' := s.toks) (fun b o hb q => he' b o hb q) f0 f1 f3 f4 f5⟩
  self := fun A i s Q E st h => let ⟨⟨_, he⟩, _⟩ := st; wpAny_pyIter_enum he h
def iEnumS (K : PySem.W.Frag) (ta tc : TE) : TI := fun σ H R => ta σ H fun v H1 => tc σ H1 fun y H2 => ∃ a xs c, v = .ref a ∧ y = .int c ∧ SqL K H2 a xs ∧ -(2 ^ 63) ≤ c ∧ c < 2 ^ 63 ∧ R (IteS K a c) H2
theorem callWith_typeKw0 {M : Model} {A : Around} {E : Value → Shared → Prop} {s : Shared} {pos : Pos} {T : String} {first : List Value} {args : List (Bool × Sem Value)} {kws : List (Option Str × Sem Value)} {Q : Value → Shared → Prop}
    (hplain : args.any (·.1) = false) (hkw : kws.any (·.1.isNone) = false)
    (h : wpAny M A (evalArgs (.type T) true args kws) (fun a s₁ => wpAny M A (call (.type T) (first ++ a.pos) a.kw) Q E s₁) E s) :
    wpAny M A (callWith pos (.type T) first args kws) Q E s := by
  unfold callWith
  refine wpAny_bind (wpAny_holding (wpAny_mono h (fun a s₁ h₁ => wpAny_bind (wpAny_standAt ?_)) fun _ _ x => x))
  simp only [hplain, hkw, Bool.or_false]
  refine wpAny_bind (wpAny_pure ?_)
  exact wpAny_bind (wpAny_mono h₁ (fun r s₂ hr => wpAny_bind (wpAny_holding (wpAny_point (wpAny_pure hr)))) fun _ _ x => x)
section
variable {X : Cx} {e e2 : Expr} {te tc : TE} {ta : TA} {p pos tpos kp : Pos} {elts : List Expr} {kk : Nat}
theorem pi_enumS (hg : Gl X "enumerate") (hm : X.mg "enumerate" = none) (ha : PA X [e] ta) (hc : PE X e2 tc) (hs : starEach [e] X.env = [(false, eval e X.env)] := by rfl) :
    PI X (.Tuple elts kk tpos) (.Call (.Name "enumerate" p) [e] [⟨some "start", e2, kp⟩] pos) (fun σ H R => ta σ H fun vs H1 => tc σ H1 fun y H2 => ∃ a xs c, vs = [.ref a] ∧ y = .int c ∧ SqL X.K H2 a xs ∧ -(2 ^ 63) ≤ c ∧ c < 2 ^ 63 ∧ R (IteS X.K a c) H2) := by
  refine ⟨fun pins s σ H R I h => ?_⟩
  refine wpAny_Call_Name_kw (ld_blt I hg hm boot_enumerate (callWith_typeKw0 (by rw [hs]; rfl) rfl ?_))
  rw [hs]
  refine evalArgs_kwB rfl ?_
  have hsp := ha.run pos pins s σ H _ I h
  rw [hs] at hsp
  refine thn hsp fun us s1 ⟨vs, H1, I1, r1, q1⟩ => ?_
  refine thn ((pk_cons (kpos := kp) (nm := some "start") hc pk_nil).run pos pins s1 σ H1 (fun ys H2 => match ys with | [y] => ∃ a xs c, vs = [.ref a] ∧ y = .int c ∧ SqL X.K H2 a xs ∧ -(2 ^ 63) ≤ c ∧ c < 2 ^ 63 ∧ R (IteS X.K a c) H2 | _ => False) I1 q1) fun ws s2 ⟨ys, H2, I2, r2, q2⟩ => ?_
  match ys, r2, q2 with
  | [y], .cons ry .nil, ⟨a, xs, c, e1, e2, hq, c0, c1, q⟩ =>
    subst e1 e2
    cases r1 with
    | cons r rr =>
      cases rr
      cases r
      obtain ⟨tk, rfl⟩ := ry
      obtain ⟨its, rv, p', hz⟩ := I2.list hq
      have hall : a < s2.heap.objs.size := by obtain ⟨_, q, _⟩ := p'.isList; exact Heap.lt_size q
      refine enum_begins_start (begins_list a its.toArray) p'.isList c0 c1 fun h' he hit hsz hk => wpAny_pyIter_enum he ?_
      have I3 : Inv X pins σ H2 { s2 with heap := h' } := I2.kept (t' := s2.toks) hk
      refine ⟨s2.heap.objs.size + 1, [s2.heap.objs.size + 1, s2.heap.objs.size], _, _, H2, rfl, I3, turn_enumS a (s2.heap.objs.size + 1) s2.heap.objs.size c (Nat.ne_of_lt hall) (Nat.ne_of_gt (Nat.lt_succ_of_lt hall)), ⟨⟨.none, by simpa using he⟩, ⟨_, hit, rfl, rfl⟩, Nat.succ_ne_self _⟩, fun b hb => ?_, q⟩
      have e' : b = s2.heap.objs.size + 1 ∨ b = s2.heap.objs.size := by simpa using hb
      have hle : s2.heap.objs.size ≤ b := by
        rcases e' with z | z
        · rw [z]; exact Nat.le_add_right _ _
        · rw [z]; exact Nat.le_refl _
      exact I2.fpOk hle (I2.hok.fresh hle)
end
end DN

/-! ground: objects of a class of the program's own -/
namespace DN
open PySem PySem.Spec PyProof.Rows L2
variable [Tb]
section
variable {X : Cx} {CX : CXT} {k : Nat} {C f : Addr} {fd : FuncData} {ps : List Str} {sp : Sp} {E : XK}
/-- len of an own object, by its __len__ -/
def rLenO (C : Addr) (sp : Sp) (E : XK) : List V → Hp → VK → Prop := fun xs H Q => ∃ a dx fs, xs = [.ref a] ∧ H a = some (.ins C dx fs) ∧ sp [.ref a] H (fun v H' => ∃ n : Int, v = .int n ∧ 0 ≤ n ∧ n < 2 ^ 63 ∧ Q (.int n) H') E
theorem call_lenO (F : FnOk X.prog X.w X.K X.mg X.base CX k f fd ps sp) (hr : Room (k + 1) X.A) (hs : PySem.W.findIn X.K (.ref C) "__len__" = some (some (.ref f))) (hf : PySem.W.isFn X.K (.ref f) = true) (hb : Binds X.K fd ps []) (hx : Passes CX X E) :
    CallR X (.builtin "len") (rLenO C sp E) := by
  intro pins s σ H xs us Q I r h
  obtain ⟨a, dx, fs, rfl, ha, hsp⟩ := h
  cases r with
  | cons r rr =>
    cases rr
    cases r
    obtain ⟨mA, J, _⟩ := ins_get I.hok ha
    obtain ⟨od, J, _⟩ := J.look
    obtain ⟨m, hF⟩ := I.fr
    refine PySem.W.len_K hF I.ok.mod.kin J hs hf ?_
    have e0 : Env0 X.prog X.w X.K X.mg X.base X.A.in1 X.stack s H := by
      have e := I.env0
      exact ⟨e.frames, e.mod, e.bs, e.bsz, e.funs, e.frf, e.hok, e.bare⟩
    have hl := F.len _ _ _ _ hsp
    have r2 : Vals [V.ref a] [Value.ref a] := .cons rfl .nil
    refine wpAny_call (codeAny_mono (F.run X.A.in1 X.stack s H ⟨[.ref a], []⟩ [.ref a] [.ref a] _ E hr.in1 e0 (by
      have := hb s [.ref a] I.kIn (by simpa using hl)
      simpa using this) r2 hsp) fun r s' hq => ?_)
    cases r with
    | error e => exact hx pins σ H s e s' I hq
    | ok fl =>
      cases fl with
      | ret w =>
        obtain ⟨z, H', I', rz, n, rfl, n0, n1, q⟩ := I.after hq
        obtain ⟨t, rfl⟩ := rz
        exact ⟨⟨n0, n1⟩, .int n, H', I'.tok _, ⟨_, rfl⟩, q⟩
      | next => exact False.elim hq
      | brk => exact False.elim hq
      | cont => exact False.elim hq
end
section
variable {X : Cx} {o : Expr} {f : Str} {pos : Pos} {ta : TE}
/-- an attribute as a target -/
def gFld (K : PySem.W.Frag) (ta : TE) (f : Str) : TG := fun v σ H Q => ta σ H fun x H1 => ∃ a C dx fs, x = .ref a ∧ H1 a = some (.ins C dx fs) ∧ Cls K C ∧ NoAttr K C f ∧ fs.length < 1000 ∧ Q σ (upd H1 a (.ins C dx (putF f v fs)))
theorem pg_fld (ha : PE X o ta) : PG X (.Attribute o f pos) (gFld X.K ta f) := by
  refine ⟨fun pins s σ H v u Q I r h => ?_⟩
  rw [assign_Attribute]
  refine wpAny_bind (wpAny_holding (thn (ha.run pins s σ H _ I h) fun ov s1 ⟨x, H1, I1, rx, a, C, dx, fs, ex, ea, c, n, l, q⟩ => ?_))
  subst ex
  obtain rfl : ov = Value.ref a := rx
  refine wpAny_bind (wpAny_standAt (wpAny_bind (wpAny_holding (setattr_ok I1 ea c n l r fun s3 I3 => ?_))))
  exact wpAny_release ⟨σ, _, I3, q⟩
end
/-! over data -/
section
variable {ρ : Rh} {K : PySem.W.Frag} {E : XK} {δ δ' : Dl} {te ta tb tc : TE} {t u ts : TS} {tt tu : TT} {tA : TA} {k k1 k2 k3 : Nat} {P P1 P2 : D → Prop} {a b c d d0 : D} {i j : Nat}
theorem AtF.get {G : Hp} {f : Str} : ∀ {vs : List (Str × V)} {es : List (Str × D)} {d : D}, AtF K G vs es → es.lookup f = some d → ∃ v, vs.lookup f = some v ∧ At K G v d
  | _, _, _, .nil, e => by simp at e
  | (g, v) :: vs, (_, d0) :: es, d, .cons h t, e => by
    rw [List.lookup_cons] at e ⊢
    by_cases q : f == g
    · rw [q] at e ⊢
      cases e
      exact ⟨v, rfl, h⟩
    · have q' : (f == g) = false := by simpa using q
      rw [q'] at e ⊢
      exact AtF.get t e
/-- what of a class an object's fields need -/
structure ClF (K : PySem.W.Frag) (C : Addr) (fs : List Str) : Prop where
  cl : Cls K C
  na : ∀ f ∈ fs, NoAttr K C f
theorem ed_fld {C : Addr} {es : List (Str × D)} {f : Str} (h : ED ρ K te δ (.ins C es)) (c : Cls K C) (n : NoAttr K C f) (hl : es.lookup f = some d) : ED ρ K (tFld K te f) δ d := .mk fun G0 H0 G H σ m Q w hm q =>
  (h).run G0 H0 G H σ m _ w hm fun x v G1 H1 m1 px w1 g1 l1 ax => by
    subst px
    cases ax with
    | @ins a _ dx fs _ ha hf =>
      obtain ⟨v, hv, av⟩ := hf.get hl
      exact ⟨a, C, dx, fs, v, rfl, w1.gd.sub _ _ ha, c, n, hv, q d v G1 H1 m1 rfl w1 g1 l1 av⟩
/-- x, *rest = a list -/
theorem sj_star {x : D} {xs : List D} {PO : Out → Prop} (h : ED ρ K te δ (.lst (x :: xs))) (hn : SJ ρ K E u ((δ.set i (some (.val x))).set j (some (.val (.lst xs)))) k2 PO) :
    SJ ρ K E (tSeq (tAsg te (gStar K (gCons (gName i) (gCons (gName j) gNil)))) u) δ (0 + k2) PO := .mk fun G0 H0 G H σ m D w hm q =>
  (h).run G0 H0 G H σ m _ w (by omega) fun d v G1 H1 m1 px w1 g1 l1 ax => by
    subst px
    cases ax with
    | @lst a vs _ ha hl =>
      cases hl with
      | @cons v0 vr _ _ h0 hr =>
        refine ⟨a, v0, vr, rfl, .inl (.inl (w1.gd.sub _ _ ha)), fun p hp => ?_⟩
        have g2 := Gd.alloc (o := HO.lst vr) w1.gd.sub hp
        have w2 := w1.step g2.weak (w1.pot.keep g2)
        refine ⟨_, _, rfl, _, _, rfl, rfl, ?_⟩
        exact (hn).run G0 H0 _ _ _ m1 D ((w2.set (i := i) (h0.mono g2.gg)).set (i := j) (.lst upd_same (hr.mono g2.gg))) (by omega) fun o po => (q o po).le (by omega)
end
def enumSD (c : Int) (ds : List D) : List D := List.zipWith (fun (i : Nat) (d : D) => D.tup [.int (c + (i : Int)), d]) (List.range ds.length) ds
theorem enumSD_len (c : Int) (ds : List D) : (enumSD c ds).length = ds.length := by simp [enumSD]
theorem enumSD_get {c : Int} {ds : List D} {i : Nat} {d : D} (h : (enumSD c ds)[i]? = some d) : ∃ e, ds[i]? = some e ∧ d = .tup [.int (c + (i : Int)), e] := by
  have hi : i < ds.length := by
    have := (List.getElem?_eq_some_iff.mp h).1
    rwa [enumSD_len] at this
  simp only [enumSD, List.getElem?_zipWith, List.getElem?_range hi, List.getElem?_eq_getElem hi] at h
  exact ⟨_, List.getElem?_eq_getElem hi, (Option.some.inj h).symm⟩
section
variable {ρ : Rh} {K : PySem.W.Frag} {E : XK} {δ δ' : Dl} {te ta tb tc : TE} {t u ts : TS} {tt tu : TT} {tA : TA} {k k1 k2 k3 : Nat} {P P1 P2 : D → Prop} {a b c d d0 : D} {i j : Nat}
theorem ij_enumS {ds : List D} {z : Int} (h : EDA ρ K tA δ [.lst ds]) (hc : ED ρ K tc δ (.int z)) (z0 : -(2 ^ 63) ≤ z) (z1 : z < 2 ^ 63) :
    IJ ρ K (fun σ H R => tA σ H fun vs H1 => tc σ H1 fun y H2 => ∃ a xs c, vs = [.ref a] ∧ y = .int c ∧ SqL K H2 a xs ∧ -(2 ^ 63) ≤ c ∧ c < 2 ^ 63 ∧ R (IteS K a c) H2) δ 0 (· = enumSD z ds) := .mk fun G0 H0 G H σ m R w hm q =>
  (h).run G0 H0 G H σ m _ w hm fun es vs G1 H1 m1 pd w1 g1 l1 x => (hc).run G0 H0 G1 H1 σ m1 _ w1 (by omega) fun d2 v2 G' H' m' pd2 w' g2 l2 x2 => by
    subst pd pd2
    cases x2
    cases x with
    | cons x r =>
      cases r
      cases x with
      | @lst a xs _ ha hl =>
        have ha := g2.gg _ _ ha
        have hl := hl.mono g2.gg
        have e := hl.len
        have wk : L2.Walk (IteS K a z) xs.length (fun H => SqL K H a xs) (fun i H v H' => ∃ T x, v = .ref T ∧ H T = none ∧ H' = upd H T (.tup [.int (z + (i : Nat)), x]) ∧ xs[i]? = some x) :=
          ⟨fun i H hi hq => ⟨xs, xs[i], hq, List.getElem?_eq_getElem hi⟩, fun H hq => ⟨xs, hq, Nat.le_refl _⟩, fun i H v H' hi hq hy => by
            obtain ⟨T, x, e1, e2, e3, e4⟩ := hy
            exact ⟨T, x, e1, e2, e3, e4 xs hq⟩⟩
        refine ⟨a, xs, z, rfl, rfl, .inl (.inl (w'.gd.sub _ _ ha)), z0, z1, q _ (IteS K a z) G' H' (fun H => SqL K H a xs) _ m' rfl w' (Gd.trans w1.pot g1 g2) (by omega) (by rw [enumSD_len, ← e]; exact wk) (fun H2 s => .inl (.inl (s _ _ ha))) ?_⟩
        intro i x H1 H2 Gx hi s1 s2 y
        obtain ⟨T, x, rfl, hT, rfl, e2⟩ := y
        obtain ⟨d, hd, hat⟩ := AtL.getv (hl.mono s1) e2
        obtain ⟨G2, g2, h2⟩ := pair_at s2 hT rfl (.int (z + (i : Nat))) hat
        refine ⟨G2, _, ?_, g2, h2⟩
        have hi2 : i < ds.length := (List.getElem?_eq_some_iff.mp hd).1
        simp only [enumSD, List.getElem?_zipWith, List.getElem?_range hi2, hd]
/-- zip of two tuples -/
theorem ij_zipT {ds es : List D} (h : EDA ρ K tA δ [.tup ds, .tup es]) : IJ ρ K (RZ.iZipA K tA) δ 0 (· = (ds.zip es).map fun p => D.tup [p.1, p.2]) := .mk fun G0 H0 G H σ m R w hm q =>
  (h).run G0 H0 G H σ m _ w hm fun fs vs G' H' m' pd w' g l x => by
    subst pd
    cases x with
    | cons x r =>
      cases r with
      | cons y r =>
        cases r
        cases x with
        | @tup a xs _ ha hl =>
          cases y with
          | @tup b ys _ hb hl2 =>
            have e := hl.len
            have e2 := hl2.len
            have wk : L2.Walk (RZ.ItzT K a b) (xs.zip ys).length (fun H => SqT K H a xs ∧ SqT K H b ys) (YPair (fun i => xs[i]?) (fun i => ys[i]?)) := by
              rw [List.length_zip]
              refine ⟨fun i _ hi q => ?_, fun _ q => ⟨xs, ys, q.1, q.2, by omega⟩, fun i H v H' _ q y => ?_⟩
              · have h1 : i < xs.length := by omega
                have h2 : i < ys.length := by omega
                exact ⟨xs, ys, xs[i], ys[i], q.1, q.2, by simp [h1], by simp [h2]⟩
              · obtain ⟨T, x, z, h1, h2, h3, h4, h5⟩ := y
                exact ⟨T, x, z, h1, h2, h3, h4 xs q.1, h5 ys q.2⟩
            refine ⟨a, b, xs, ys, rfl, .inr ⟨Same.sqT w'.gd.sub ha, Same.sqT w'.gd.sub hb, q _ (RZ.ItzT K a b) G' H' (fun H => SqT K H a xs ∧ SqT K H b ys) _ m' rfl w' g l (by simp only [List.length_map, List.length_zip]; rw [← e, ← e2, ← List.length_zip]; exact wk) (fun H2 s => ⟨Same.sqT s ha, Same.sqT s hb⟩) ?_⟩⟩
            intro i x H1 H2 Gx hi s1 s2 y
            obtain ⟨T, x, y, rfl, hT, rfl, e1, e2⟩ := y
            obtain ⟨d, hd, hat⟩ := AtL.getv (hl.mono s1) e1
            obtain ⟨d2, hd2, hat2⟩ := AtL.getv (hl2.mono s1) e2
            obtain ⟨G2, g2, h2⟩ := pair_at s2 hT rfl hat hat2
            refine ⟨G2, _, ?_, g2, h2⟩
            simp [List.getElem?_map, hd, hd2, List.zip, List.getElem?_zipWith]
end
end DN

/-! ground: kinds of values, split, chains, stars in displays, slices of tuples -/
namespace DN
open PySem PySem.Spec PyProof.Rows L2
variable [Tb]
def tyD : D → Option String
  | .non => some "NoneType"
  | .bl _ => some "bool"
  | .int _ => some "int"
  | .str _ => some "str"
  | .tup _ => some "tuple"
  | _ => none
abbrev rSplit : V → List V → Hp → VK → Prop := fun x xs H Q => ∃ a b, x = .str a ∧ xs = [.str b] ∧ (b.length == 0) = false ∧ a.length + 2 ≤ sizeLine ∧ rNewStrs (Txt.split a b) H Q
abbrev rInSign : R2 := fun x y H Q => ∃ (c : Nat) (z : Str), x = .str ⟨#[c]⟩ ∧ y = .str z ∧ Q (.bl (decide (c ∈ z.cps.toList))) H
abbrev rIntStr : List V → Hp → VK → Prop := fun xs H Q => ∃ a n, xs = [.str a] ∧ PySem.intText? a = some n ∧ a.length ≤ 640 ∧ Q (.int n) H
section
variable {ρ : Rh} {K : PySem.W.Frag} {E : XK} {δ δ' : Dl} {te ta tb tc : TE} {t u ts : TS} {tt tu : TT} {tA tr : TA} {k k1 k2 k3 : Nat} {P P1 P2 : D → Prop} {a b c d d0 : D} {i j : Nat} {r r' : R2}
theorem at_ty {G H : Hp} (s : Same G H) {v : V} {d : D} {t : String} (h : At K G v d) (e : tyD d = some t) : TyX K H v (.type t) := by
  cases h with
  | non => cases e; exact .base .non
  | bl b => cases e; exact .base (.bl b)
  | int b => cases e; exact .base (.int b)
  | str b => cases e; exact .base (.str b)
  | tup hs _ =>
    cases e
    rcases hs with (h | ⟨o, h⟩) | ⟨o, its, n, h1, h2, _⟩
    · exact .base (.tup (s _ _ h))
    · exact .fTuple (s _ _ h)
    · exact .kTuple h1 h2
  | lst _ _ => cases e
  | dct _ _ => cases e
  | ins _ _ => cases e
  | exc _ _ _ => cases e
  | opq _ => cases e
  | scr _ => cases e
  | cau _ _ => cases e
theorem cj_isi {t T : String} {x : Bool} (h : tyD d = some t) (e : kitB t T = some x) : CJ K (rIsi K) [d, .opq (.ty T)] (.bl x) := .mk fun xs G H Q hx s q => by
  cases hx with
  | cons h1 hx =>
    cases hx with
    | cons h2 hx =>
      cases hx
      cases h2
      exact ⟨_, .ty T, .type t, .type T, x, rfl, .ty T, at_ty s h1 h, kit_ty e, q _ G H (Gd.refl s) (.bl _)⟩
theorem en_split {z sep : Str} (h : ED ρ K te δ (.str z)) (hs : (sep.length == 0) = false) (hz : z.length ≤ 1000000) : EN ρ K (tBM K "str" rSplit te (tCons (tC (.str sep)) tNil)) δ 0 (· = .lst ((Txt.split z sep).map D.str)) := .mk fun G0 H0 G H σ m Q w hm q =>
  (h).run G0 H0 G H σ m _ w hm fun d v G1 H1 m1 px w1 g1 l1 ax => by
    subst px
    cases ax
    refine ⟨rfl, z, sep, rfl, rfl, hs, Nat.le_trans (Nat.add_le_add_right hz 2) (by decide), ?_⟩
    exact en_fin w w1 g1 (.lst (atL_strs _)) fun p o G' H' m' w' g' l' => q _ p o G' H' m' rfl w' g' (by omega)
theorem rj_le {x y : Int} : RJ K (rI0 fun i j => .bl (decide (i ≤ j))) (.int x) (.int y) (.bl (decide (x ≤ y))) := rj_B0
theorem ed_chain {x y : Bool} (ha : ED ρ K ta δ a) (hb : ED ρ K tb δ b) (hc : x = true → ED ρ K tc δ c) (hr : RJ K r a b (.bl x)) (hr' : x = true → RJ K r' b c (.bl y)) : ED ρ K (tChain r r' ta tb tc) δ (.bl (x && y)) := .mk fun G0 H0 G H σ m Q w hm q =>
  (ha).run G0 H0 G H σ m _ w (by omega) fun d1 v1 G1 H1 m1 p1 w1 g1 l1 a1 => (hb).run G0 H0 G1 H1 σ m1 _ w1 (by omega) fun d2 v2 G2 H2 m2 p2 w2 g2 l2 a2 => by
    subst p1 p2
    refine hr.run v1 v2 G2 H2 _ (a1.mono g2.gg) a2 w2.gd.sub fun v G3 H3 g3 av => ?_
    cases av
    have w3 := w2.step g3.weak (w2.pot.keep g3)
    have g13 := Gd.trans w2.pot (Gd.trans w1.pot g1 g2) g3.weak
    refine ⟨x, rfl, ?_⟩
    cases x with
    | false => exact iteF (q _ _ G3 H3 m2 rfl w3 g13 (by omega) (.bl _))
    | true =>
      refine iteT ((hc rfl).run G0 H0 G3 H3 σ m2 _ w3 (by omega) fun d4 v4 G4 H4 m4 p4 w4 g4 l4 a4 => ?_)
      subst p4
      refine (hr' rfl).run v2 v4 G4 H4 Q ((a2.mono g3.gg).mono g4.gg) a4 w4.gd.sub fun v G5 H5 g5 av => ?_
      exact q _ v G5 H5 m4 rfl (w4.step g5.weak (w4.pot.keep g5)) (Gd.trans w4.pot (Gd.trans w3.pot g13 g4) g5.weak) (by omega) av
theorem ed_leLe {x y z : Int} (ha : ED ρ K ta δ (.int x)) (hb : ED ρ K tb δ (.int y)) (hc : ED ρ K tc δ (.int z)) : ED ρ K (tChain (rI0 fun i j => .bl (decide (i ≤ j))) (rI0 fun i j => .bl (decide (i ≤ j))) ta tb tc) δ (.bl (decide (x ≤ y) && decide (y ≤ z))) :=
  ed_chain ha hb (fun _ => hc) rj_B0 fun _ => rj_B0
/-- *e within a display -/
theorem eda_starT {ds es : List D} (h : ED ρ K te δ (.tup ds)) (hr : EDA ρ K tr δ es) : EDA ρ K (StX.tStar K te tr) δ (ds ++ es) := .mk fun G0 H0 G H σ m Q w hm q =>
  (h).run G0 H0 G H σ m _ w (by omega) fun d v G1 H1 m1 p1 w1 g1 l1 a1 => by
    subst p1
    cases a1 with
    | @tup p xs _ hp hl => exact ⟨p, xs, rfl, .inl (Same.sqT w1.gd.sub hp), (hr).run G0 H0 G1 H1 σ m1 _ w1 (by omega) fun d2 v2 G2 H2 m2 p2 w2 g2 l2 a2 => q _ _ G2 H2 m2 (by subst p2; rfl) w2 (Gd.trans w1.pot g1 g2) (by omega) ((hl.mono g2.gg).app a2)⟩
theorem eda_starL {ds es : List D} (h : ED ρ K te δ (.lst ds)) (hr : EDA ρ K tr δ es) : EDA ρ K (StX.tStar K te tr) δ (ds ++ es) := .mk fun G0 H0 G H σ m Q w hm q =>
  (h).run G0 H0 G H σ m _ w (by omega) fun d v G1 H1 m1 p1 w1 g1 l1 a1 => by
    subst p1
    cases a1 with
    | @lst p xs _ hp hl => exact ⟨p, xs, rfl, .inr (.inl (.inl (w1.gd.sub _ _ hp))), (hr).run G0 H0 G1 H1 σ m1 _ w1 (by omega) fun d2 v2 G2 H2 m2 p2 w2 g2 l2 a2 => q _ _ G2 H2 m2 (by subst p2; rfl) w2 (Gd.trans w1.pot g1 g2) (by omega) ((hl.mono g2.gg).app a2)⟩
theorem ed_slT {ds : List D} {tl th : TO} {lo hi : Option Int} (h : ED ρ K te δ (.tup ds)) (hl : EO ρ K tl δ lo) (hh : EO ρ K th δ hi) (hw : ¬ (HT.sIx ds.length 0 lo = 0 ∧ HT.sIx ds.length ds.length hi = ds.length)) : ED ρ K (tSl (rSlT K) te tl th) δ (.tup (cutD ds lo hi)) := .mk fun G0 H0 G H σ m Q w hm q =>
  (h).run G0 H0 G H σ m _ w hm fun d v G1 H1 m1 px w1 g1 l1 ax => by
    subst px
    refine (hl).run G0 H0 G1 H1 σ m1 _ w1 (by omega) fun G2 H2 m2 w2 g2 l2 => ?_
    refine (hh).run G0 H0 G2 H2 σ m2 _ w2 (by omega) fun G3 H3 m3 w3 g3 l3 => ?_
    have ax2 := (ax.mono g2.gg).mono g3.gg
    cases ax2 with
    | @tup p xs _ hp hpl =>
      refine ⟨p, xs, rfl, Same.sqT w3.gd.sub hp, by rw [hpl.len]; exact hw, fun t ht => ?_⟩
      have g4 := Gd.alloc (o := HO.tup (cutV xs lo hi)) w3.gd.sub ht
      exact q _ _ _ _ m3 rfl (w3.step g4.weak (w3.pot.keep g4)) (Gd.trans w3.pot (Gd.trans w2.pot (Gd.trans w1.pot g1 g2) g3) g4.weak) (by omega) (.tup (.inl (.inl upd_same)) ((hpl.mono g4.gg).cut lo hi))
theorem rj_inSign {c : Nat} {z : Str} : RJ K rInSign (.str ⟨#[c]⟩) (.str z) (.bl (decide (c ∈ z.cps.toList))) := .mk fun x y G H Q hx hy s q => by
  cases hx
  cases hy
  exact ⟨c, z, rfl, rfl, q _ G H (Gd.refl s) (.bl _)⟩
theorem cj_intStr {z : Str} {n : Int} (e : PySem.intText? z = some n) (hz : z.length ≤ 640) : CJ K rIntStr [.str z] (.int n) := .mk fun xs G H Q hx s q => by
  cases hx with
  | cons h r =>
    cases r
    cases h
    exact ⟨z, n, rfl, e, hz, q _ G H (Gd.refl s) (.int _)⟩
theorem ej_max {ns : List Int} (h : ED ρ K te δ (.lst (ns.map D.int))) (h0 : 0 < ns.length) : EJ ρ K (tCB (rMax K) (tCons te tNil)) δ 0 (fun d => ∃ m, d = .int m ∧ m ∈ ns ∧ ∀ y ∈ ns, y ≤ m) := .mk fun G0 H0 G H σ m Q w hm q =>
  h.run G0 H0 G H σ m _ w hm fun d v G1 H1 m1 pd w1 g1 l1 x => by
    subst pd
    cases x with
    | @lst a xs _ ha hl =>
      have e := hl.ints
      subst e
      exact ⟨a, ns, rfl, .inl (.inl (w1.gd.sub _ _ ha)), h0, fun mm hmem hle => q _ _ G1 H1 m1 ⟨mm, rfl, hmem, hle⟩ w1 g1 l1 (.int _)⟩
theorem cut_from {ds : List D} {h : Int} (h0 : 0 ≤ h) : cutD ds (some h) none = ds.drop h.toNat := by
  unfold cutD HT.sIx
  simp only
  rw [if_neg (by omega)]
  by_cases z : h.toNat ≤ ds.length
  · rw [Nat.min_eq_left z, List.take_of_length_le (by rw [List.length_drop]; omega)]
  · rw [Nat.min_eq_right (by omega), Nat.sub_self, List.take_zero, List.drop_of_length_le (by omega)]
/-- len of an own object whose __len__ keeps a promise over data -/
theorem ed_lenO {C : Addr} {es : List (Str × D)} {n c : Nat} {pre : Rh → List D → Prop} {post : List D → D → Prop} {EE : XK} {z : Int} (h : ED ρ K te δ (.ins C es)) (hn : n = 1) (hp : pre ρ [.ins C es]) (hpost : ∀ d, post [.ins C es] d → d = .int z) (z0 : 0 ≤ z) (z1 : z < 2 ^ 63) :
    EJ ρ K (tCB (rLenO C (spJ K n pre c post) EE) (tCons te tNil)) δ c (· = .int z) := .mk fun G0 H0 G H σ m Q w hm q =>
  h.run G0 H0 G H σ m _ w (by omega) fun d v G1 H1 m1 pd w1 g1 l1 x => by
    subst pd
    have x' := x
    cases x with
    | @ins a _ dx fs _ ha hf =>
      refine ⟨a, dx, fs, rfl, w1.gd.sub _ _ ha, ρ, G1, [.ins C es], m1, .cons x' .nil, hn.symm, w1.gd.sub, w1.pot, fun a e => w1.gnone e, by omega, hp, fun d v G2 H2 m2 pd g2 p2 l2 a2 => ?_⟩
      have := hpost d pd
      subst this
      cases a2
      exact ⟨z, rfl, z0, z1, q _ _ G2 H2 m2 rfl (w1.step g2 p2) (Gd.trans w1.pot g1 g2) (by omega) (.int _)⟩
end
end DN

/-! ground: an object of a class of the program's own, in the making -/
namespace DN
open PySem PySem.Spec PyProof.Rows L2
variable [Tb]
def putFD (f : Str) (d : D) : List (Str × D) → List (Str × D)
  | [] => [(f, d)]
  | (g, x) :: r => if g = f then (g, d) :: r else (g, x) :: putFD f d r
section
variable {ρ : Rh} {K : PySem.W.Frag} {E : XK} {δ δ' : Dl} {te ta tb tc : TE} {t u ts : TS} {tt tu : TT} {tA tr : TA} {k k1 k2 k3 : Nat} {P P1 P2 : D → Prop} {PO : Out → Prop} {a b c d d0 : D} {i j : Nat}
theorem AtF.len {G : Hp} : ∀ {vs : List (Str × V)} {es : List (Str × D)}, AtF K G vs es → vs.length = es.length
  | _, _, .nil => rfl
  | _, _, .cons _ t => congrArg (· + 1) (AtF.len t)
theorem AtF.put {G : Hp} {f : Str} {v : V} {d : D} (hv : At K G v d) : ∀ {vs : List (Str × V)} {es : List (Str × D)}, AtF K G vs es → AtF K G (putF f v vs) (putFD f d es)
  | _, _, .nil => .cons hv .nil
  | (g, x) :: vs, (_, y) :: es, .cons h t => by
    unfold putF putFD
    by_cases e : g = f
    · rw [if_pos e, if_pos e]; exact .cons hv t
    · rw [if_neg e, if_neg e]; exact .cons h (AtF.put hv t)
/-- statements of an __init__: slot 0 holds the new object x -/
structure SI (ρ : Rh) (K : PySem.W.Frag) (x : Addr) (ts : TS) (δ : Dl) (k : Nat) (PO : Dl → Prop) : Prop where
  run : ∀ (G0 H0 G H : Hp) (σ : L2.St) (m : Nat) (D : Ends), Wf ρ K G0 H0 G H σ δ m → σ[0]? = some (some (.ref x)) → m + k ≤ Mx →
    (∀ δ', PO δ' → ∀ G' H' σ' m', Wf ρ K G0 H0 G' H' σ' δ' m' → σ'[0]? = some (some (.ref x)) → m' ≤ m + k → D.nx σ' H') → ts D σ H
variable {x0 : Addr} {PI : Dl → Prop}
theorem si_next (h : PI δ) : SI ρ K x0 tNext δ 0 PI := .mk fun G0 H0 G H σ m D w hx hm q => q δ h G H σ m w hx (by omega)
theorem si_nexts {r : TS} (h : SI ρ K x0 r δ k PI) : SI ρ K x0 (tSeq tNext r) δ k PI := h
theorem si_last (h : SI ρ K x0 (tSeq ts tNext) δ k PI) : SI ρ K x0 ts δ k PI := h
theorem si_ifF {r : TS} (h : EB ρ K tt δ false) (hf : SI ρ K x0 (tSeq u r) δ k PI) : SI ρ K x0 (tSeq (tIfS tt t u) r) δ (0 + k) PI := .mk fun G0 H0 G H σ m D w hx hm q =>
  (h).run G0 H0 G H σ m _ w (by omega) fun b G1 H1 m1 px w1 g1 l1 => by
    subst px
    exact iteF (hf.run G0 H0 G1 H1 σ m1 D w1 hx (by omega) fun δ' pd G' H' σ' m' w' hx' l' => q δ' pd G' H' σ' m' w' hx' (by omega))
theorem si_set (hj : j ≠ 0) (h : EJ ρ K te δ k1 P) (hn : ∀ d, P d → SI ρ K x0 u (δ.set j (some (.val d))) k2 PI) : SI ρ K x0 (tSeq (tAsg te (gName j)) u) δ (k1 + k2) PI := .mk fun G0 H0 G H σ m D w hx hm q =>
  (h).run G0 H0 G H σ m _ w (by omega) fun d v G' H' m' p w' g l x => (hn d p).run G0 H0 G' H' _ m' D (w'.set x) (by rw [List.getElem?_set_ne hj]; exact hx) (by omega) fun δ' pd G' H' σ' m' w' hx' l' => q δ' pd G' H' σ' m' w' hx' (by omega)
theorem si_fld {C : Addr} {es : List (Str × D)} {f : Str} (hi : δ[0]? = some (some (.own (.ins C es)))) (h : EJ ρ K te δ k1 P) (c : Cls K C) (n : NoAttr K C f) (hl : es.length < 1000) (hn : ∀ d, P d → SI ρ K x0 u (δ.set 0 (some (.own (.ins C (putFD f d es))))) k2 PI) :
    SI ρ K x0 (tSeq (sFld K (tVar 0) te f) u) δ (k1 + k2) PI := .mk fun G0 H0 G H σ m D w hx hm q =>
  (h).run G0 H0 G H σ m _ w (by omega) fun d v G' H' m' pd w' g l x => by
    obtain ⟨s, e1, p, o, rfl, hp, ha, hg, h0⟩ := w'.sl 0 _ hi
    cases ha with
    | @ins _ dx fs _ hf => exact ⟨_, e1, p, C, dx, fs, rfl, hp, c, n, by rw [hf.len]; exact hl, (hn d pd).run G0 H0 G' _ σ m' D (w'.chg hi e1 (.ins (hf.put x))) hx (by omega) fun δ' pd G' H' σ' m' w' hx' l' => q δ' pd G' H' σ' m' w' hx' (by omega)⟩
/-- the fields a, b, c of the own object take the parts of a tuple -/
theorem si_fld3 {C : Addr} {es : List (Str × D)} {f g e : Str} {x y z : D} {n : Nat} (hi : δ[0]? = some (some (.own (.ins C es)))) (hn3 : n = 3) (h : ED ρ K te δ (.tup [x, y, z])) (c : Cls K C) (nf : NoAttr K C f) (ng : NoAttr K C g) (ne : NoAttr K C e) (hl : es.length < 900)
    (hn : SI ρ K x0 u (δ.set 0 (some (.own (.ins C (putFD e z (putFD g y (putFD f x es))))))) k2 PI) :
    SI ρ K x0 (tSeq (tAsg te (gTup K n (gCons (gFld K (tVar 0) f) (gCons (gFld K (tVar 0) g) (gCons (gFld K (tVar 0) e) gNil))))) u) δ (0 + k2) PI := .mk fun G0 H0 G H σ m D w hx0 hm q =>
  (h).run G0 H0 G H σ m _ w (by omega) fun d v G' H' m' pd w' gd l xx => by
    subst pd hn3
    cases xx with
    | @tup a vs _ ha hx =>
      cases hx with
      | cons hx hr =>
      cases hr with
      | cons hy hr =>
      cases hr with
      | cons hz hr =>
      cases hr
      obtain ⟨s, e1, p, o, rfl, hp, ha', hg, h0⟩ := w'.sl 0 _ hi
      cases ha' with
      | @ins _ dx fs _ hf =>
        have len1 : ∀ (f : Str) (v : V) (fs : List (Str × V)), (putF f v fs).length ≤ fs.length + 1 := fun f v fs => length_putF f v fs
        have hil : 0 < δ.length := by
          cases Nat.lt_or_ge 0 δ.length with
          | inl h => exact h
          | inr h => rw [List.getElem?_eq_none h] at hi; cases hi
        have hfl := hf.len
        refine ⟨a, _, rfl, Same.sqT w'.gd.sub ha, rfl, _, _, rfl, _, e1, p, C, dx, fs, rfl, hp, c, nf, by omega, ?_⟩
        refine ⟨_, _, rfl, _, e1, p, C, dx, _, rfl, upd_same, c, ng, Nat.lt_of_le_of_lt (len1 _ _ _) (by omega), ?_⟩
        refine ⟨_, _, rfl, _, e1, p, C, dx, _, rfl, upd_same, c, ne, Nat.lt_of_le_of_lt (len1 _ _ _) (Nat.lt_of_le_of_lt (Nat.add_le_add_right (len1 _ _ _) 1) (by omega)), rfl, ?_⟩
        have w2 := w'.chg (o := .ins C dx (putF f _ fs)) hi e1 (.ins (hf.put hx))
        have w3 := w2.chg (i := 0) (o := .ins C dx (putF g _ (putF f _ fs))) (List.getElem?_set_self hil) e1 (.ins ((hf.put hx).put hy))
        have w4 := w3.chg (i := 0) (o := .ins C dx (putF e _ (putF g _ (putF f _ fs)))) (by rw [List.set_set]; exact List.getElem?_set_self hil) e1 (.ins (((hf.put hx).put hy).put hz))
        rw [List.set_set, List.set_set] at w4
        exact hn.run G0 H0 G' _ σ m' D w4 hx0 (by omega) fun δ' pd G' H' σ' m' w' hx' l' => q δ' pd G' H' σ' m' w' hx' (by omega)
theorem ej_peekT (i : Nat) (hi : δ[i]? = some (some (.own d0))) (h : EJ ρ K te (δ.set i (some (.val d0))) k P) (ha : ∀ d, P d → tupO d = true) : EJ ρ K te δ k P := .mk fun G0 H0 G H σ m Q w hm q => by
  obtain ⟨p, o, hs, hp, hg, hoa, w'⟩ := w.froze hi
  refine h.run G0 H0 _ H σ m Q w' hm fun d v G' H' m' pd w2 g l x => ?_
  have g3 := g.thaw hg
  exact q d v _ H' m' pd (w.step g3 w2.pot) g3 l (at_thawT (g.gg _ _ upd_same) hoa.ld x (ha d pd))
/-- what a class's own __init__ promises: the fields es of the new object -/
def spInitJ (K : PySem.W.Frag) (C : Addr) (n c : Nat) (pre : Rh → List D → Prop) (es : List D → List (Str × D) → Prop) : Sp := fun vs H Q _ => ∃ (ρ : Rh) (x dx : Addr) (G : Hp) (ds : List D) (vr : List V) (m : Nat), vs = .ref x :: vr ∧ AtL K G vr ds ∧ ds.length = n ∧ H x = some (.ins C dx []) ∧ G x = none ∧ Fx ρ x ∧ Same G H ∧ PotS ρ m H ∧
  (∀ a, Mv ρ a → G a = none) ∧ m + c ≤ Mx ∧ pre ρ ds ∧ ∀ dx' fs fd G' H' m', es ds fd → Gd ρ G (thaw H x) G' H' → PotS ρ m' H' → m' ≤ m + c → H' x = some (.ins C dx' fs) → AtF K G' fs fd → G' x = none → Q .non H'
theorem spInitJ_len {C : Addr} {n c : Nat} {pre : Rh → List D → Prop} {es : List D → List (Str × D) → Prop} {vs : List V} {H : Hp} {Q : VK} {EE : XK} (h : spInitJ K C n c pre es vs H Q EE) : vs.length = n + 1 := by
  obtain ⟨_, x, _, _, ds, vr, _, rfl, h1, h2, _⟩ := h
  rw [List.length_cons, h1.len, h2]
/-- a new object of the class -/
theorem ej_make {C : Addr} {n c : Nat} {pre : Rh → List D → Prop} {es : List D → List (Str × D) → Prop} {PA : List D → Prop} {EE : XK} {sp : Sp} (h : EA ρ K tA δ k PA) (hsp : ∀ vs H Q, spInitJ K C n c pre es vs H Q EE → sp vs H Q EE) (h1 : ∀ ds, PA ds → ds.length = n ∧ pre ρ ds) (h2 : ∀ ds fd, PA ds → es ds fd → P (.ins C fd)) :
    EJ ρ K (tMake C sp [] EE tA) δ (k + c) P := .mk fun G0 H0 G H σ m Q w hm q =>
  (h).run G0 H0 G H σ m _ w (by omega) fun ds vs G1 H1 m1 px w1 g1 l1 ax => fun x dx hx hdx hne => by
    rw [List.append_nil]
    refine hsp _ _ _ ?_
    have gx : G1 x = none := w1.gd.sub.free hx
    have gdx : G1 dx = none := w1.gd.sub.free hdx
    have hnr : Fx ρ x := w1.rho hx
    have sub1 : Same G1 (upd (upd H1 dx (.own x)) x (.ins C dx [])) := (w1.gd.sub.trans (same_new hdx)).trans (same_new (by rw [upd_ne (fun z => hne z.symm)]; exact hx))
    have hpot : PotS ρ m1 (upd (upd H1 dx (.own x)) x (.ins C dx [])) := (w1.pot.new hdx).new (by rw [upd_ne (fun z => hne z.symm)]; exact hx)
    refine ⟨ρ, x, dx, G1, ds, vs, m1, rfl, ax, (h1 ds px).1, upd_same, gx, hnr, sub1, hpot, fun a e => w1.gnone e, by omega, (h1 ds px).2, fun dx' fs fd G' H' m' pe g2 p2 l2 hx2 hf hg2 => ⟨rfl, ?_⟩⟩
    have key : ∀ b o, H1 b = some o → thaw (upd (upd H1 dx (.own x)) x (.ins C dx [])) x b = some o := fun b o e => by
      have n1 : b ≠ x := ne_of_none e hx
      rw [thaw_ne n1, upd_ne n1, upd_ne (ne_of_none e hdx)]
      exact e
    have gg : Same G' (upd G' x (.ins C dx' fs)) := same_new hg2
    have gd : Gd ρ G1 H1 (upd G' x (.ins C dx' fs)) H' := ⟨fun b o nb e => g2.keep b o nb (key b o e), g2.gg.trans gg, fun b u e => by
        by_cases z : b = x
        · subst z; rw [upd_same] at e; rw [hx2]; exact e
        · rw [upd_ne z] at e; exact g2.sub b u e, fun b e => by
        by_cases z : b = x
        · subst z; exact .inr hx
        · rw [upd_ne z] at e
          rcases g2.new b e with y | y
          · exact .inl y
          · rw [thaw_ne z, upd_ne z] at y
            by_cases z2 : b = dx
            · subst z2; exact .inr hdx
            · rw [upd_ne z2] at y; exact .inr y, fun ho => g2.ot fun on b ps e => by
          by_cases z : b = x
          · rw [z, thaw_same] at e; cases e
          · rw [thaw_ne z, upd_ne z] at e
            exact (ho.upd (p := dx) (o := .own x) (by (intro _ z; cases z))) on b ps e⟩
    exact q (.ins C fd) (.ref x) _ H' m' (h2 ds fd px pe) (w1.step gd p2) (Gd.trans w1.pot g1 gd) (by omega) (.ins upd_same (hf.mono gg))
/-- the body of an __init__ keeps its promise -/
theorem init_of {N : List Str} {C : Addr} {n c : Nat} {pre : Rh → List D → Prop} {es : List D → List (Str × D) → Prop} {vs : List V} {H : Hp} {Q : VK} {EE : XK}
    (hb : ∀ ρ ds x, ds.length = n → pre ρ ds → ∃ k, k ≤ c ∧ SI ρ K x ts (some (.own (.ins C [])) :: initD (N.length - 1) ds) k (fun δ' => ∃ fd, es ds fd ∧ δ'[0]? = some (some (.own (.ins C fd))))) (hN : 1 ≤ N.length) (h : spInitJ K C n c pre es vs H Q EE) :
    ts { nx := fun _ H' => Q .non H', rt := Q } (L2.start N vs) H := by
  obtain ⟨ρ, x, dx, G, ds, vr, m, rfl, ha, hl, hx, gx, hnr, hs, hp, hg, hm, hpre, q⟩ := h
  obtain ⟨k, hk, hb⟩ := hb ρ ds x hl hpre
  have hvl := ha.len
  have gs : Same G (thaw H x) := fun b o e => by
    rw [thaw_ne (fun z => by rw [z, gx] at e; cases e)]
    exact hs b o e
  have dl : ∀ {i : Nat} {s : Sl}, (initD (N.length - 1) ds)[i]? = some (some s) → ∃ d, s = .val d ∧ ds[i]? = some d := by
    intro i s e
    unfold initD at e
    by_cases hi : i < ds.length
    · rw [List.getElem?_append_left (by rw [List.length_map]; exact hi), List.getElem?_map, List.getElem?_eq_getElem hi] at e
      cases e
      exact ⟨ds[i], rfl, List.getElem?_eq_getElem hi⟩
    · rw [List.getElem?_append_right (by rw [List.length_map]; omega)] at e
      have e2 := (List.getElem?_replicate).symm.trans e
      split at e2 <;> cases e2
  have w : Wf ρ K G (thaw H x) G H (L2.start N (.ref x :: vr)) (some (.own (.ins C [])) :: initD (N.length - 1) ds) m := by
    refine ⟨?_, ⟨fun b o _ e => ?_, Same.refl _, hs, fun b e => .inl e, fun _ => hp.only⟩, hp, fun a e => ⟨?_, hg a e⟩, fun i s e => ?_, fun i j d e n h1 h2 => ?_⟩
    · unfold L2.start initD
      simp only [List.length_append, List.length_map, List.length_replicate, List.length_cons, hvl]
      omega
    · by_cases z : b = x
      · subst z; rw [thaw_same] at e; cases e
      · rw [thaw_ne z] at e; exact e
    · have n : a ≠ x := fun z => hnr (by rw [← z]; exact e)
      rw [thaw_ne n]; exact hp.ne e
    · cases i with
      | zero =>
        cases e
        exact ⟨.ref x, rfl, x, _, rfl, hx, .ins .nil, gx, thaw_same⟩
      | succ i =>
        obtain ⟨d, rfl, hd⟩ := dl (by simpa using e)
        obtain ⟨v, hv, hav⟩ := ha.get hd
        refine ⟨v, ?_, hav⟩
        exact start_get (vs := .ref x :: vr) (i := i + 1) (by simpa using hv)
    · cases i with
      | zero =>
        cases j with
        | zero => exact absurd rfl n
        | succ j =>
          obtain ⟨y, hy, _⟩ := dl (i := j) (by simpa using h2)
          cases hy
      | succ i =>
        obtain ⟨y, hy, _⟩ := dl (i := i) (by simpa using h1)
        cases hy
  refine hb.run G (thaw H x) G H (L2.start N (.ref x :: vr)) m _ w rfl (by omega) fun δ' po G' H' σ' m' w' hx' l' => ?_
  obtain ⟨fd, hes, h0⟩ := po
  obtain ⟨v, e1, p, o, rfl, hp', ha', hg', h0'⟩ := w'.sl 0 _ h0
  rw [hx'] at e1
  cases e1
  cases ha' with
  | @ins _ dx' fs _ hf => exact q dx' fs fd G' H' m' hes w'.gd w'.pot (by omega) hp' hf hg'
end
end DN

/-! ground: errors raised and caught -/
namespace DN
open PySem PySem.Spec PyProof.Rows L2
variable [Tb]
section
variable {X : Cx} {CX : CXT} {k : Nat} {f C : Addr} {fd : FuncData} {ps ks : List Str} {sp : Sp} {E : L2.St → XK} {x : Str} {p pos : Pos} {kws : List Keyword} {tk : TA} {g : List Value → List Value → List Value} {gV : List V → List V → List V}
/-- f(k = v, ..), by keywords alone, where f may raise -/
theorem pe_callSK0 (F : FnOk X.prog X.w X.K X.mg X.base CX k f fd ps sp) (hr : Room k X.A) (hg : Gl X x) (hm : X.mg x = some (.ref f)) (hk : PySem.W.keepIn X.K (.ref f) = true) (hb : KBinds X.K fd ps ks g gV) (hx : ∀ σ, PassesAt CX X σ (E σ)) (hkw : PK X kws tk)
    (hall : (backToKw pos (keywordEach kws X.env)).all (·.1.isSome) = true := by rfl) (hks : (backToKw pos (keywordEach kws X.env)).filterMap (·.1) = ks := by rfl) (hdb : (x == ("__debug__" : Str)) = false := by decide)
    (hpl : ((backTo pos (starEach [] X.env)).any (·.1) || (backToKw pos (keywordEach kws X.env)).any (·.1.isNone)) = false := by rfl) :
    PE X (.Call (.Name x p) [] kws pos) (fun σ H Q => tk σ H fun zs H1 => sp (gV [] zs) H1 Q (E σ)) := by
  refine ⟨fun pins s σ H Q I h => ?_⟩
  refine wpAny_Call_Name_kw (ld_glob I hg hm ?_ hdb)
  refine PySem.W.callWith_KW0 (h₀ := X.base) I.ok.mod.kin hk hall ?_ hpl
  refine thn (hkw.run pos pins s σ H _ I h) fun ws s2 ⟨zs, H2, I2, rz, q2⟩ => ⟨I2.kIn, ?_⟩
  rw [hks]
  have r2 : Vals (gV [] zs) (g [] ws) := hb.rel .nil rz
  have hl : (g [] ws).length = ps.length := by rw [← r2.length]; exact F.len _ _ _ _ q2
  refine wpAny_call (codeAny_mono (F.run X.A X.stack s2 H2 ⟨[], ks.zip ws⟩ (g [] ws) (gV [] zs) Q (E σ) hr I2.env0 (hb.to s2 [] ws I2.kIn hl) r2 q2) fun r s' hq => ?_)
  cases r with
  | error e => exact hx σ pins H2 s2 e s' I2 hq
  | ok fl =>
    cases fl with
    | ret u => exact I2.after hq
    | next => exact False.elim hq
    | brk => exact False.elim hq
    | cont => exact False.elim hq
end
section
variable {X : Cx} {a D : Addr} {oe : Obj} {pn : List (Addr × Obj)} {cls : Value} {d : Option Addr}
/-- isinstance(e, c), e the exception that the suite holds, with its own dict -/
def rIsED (K : PySem.W.Frag) (a : Addr) (cls : Value) (d : Option Addr) : List V → Hp → VK → Prop := fun xs H Q => ∃ (D dd : Addr) (fs : List (Str × V)) (c : V) (cv : Value) (b : Bool), xs = [.ref a, c] ∧ cls = .ref D ∧ d = some dd ∧ H dd = some (.xd fs) ∧ ExcC K D ∧ ClsV c cv ∧ PySem.W.kitOne K (.ref D) cv = some b ∧ Q (.bl b) H
theorem call_isED (hz : Zc cls d oe) (hf : ∃ vs, oe.data = .fields vs) : CallR (X.suite a ((a, oe) :: pn)) (.builtin "isinstance") (rIsED X.K a cls d) := by
  intro pins s σ H xs us Q I r h
  obtain ⟨D, dd, fs, c, cv, b, rfl, rfl, rfl, hd, F, hcv, e, q⟩ := h
  obtain ⟨u1, u2, rfl, r1, r2⟩ := vals2 r
  have e2 := hcv.eq r2
  subst e2
  have e1 : u1 = .ref a := r1
  subst e1
  obtain ⟨hget, _⟩ := I.pin (a, oe) (List.mem_append.mpr (.inl List.mem_cons_self))
  obtain ⟨vs, hv⟩ := hf
  have hx : ObjOk X.prog X.w H s.heap dd (.xd fs) := I.hok dd _ hd
  obtain ⟨mA, hns, _⟩ := hx
  obtain ⟨od, ho, hl⟩ := lookIn_ns hns
  have J : PySem.W.InstAt s.heap a oe D (some od) := ⟨hget, hz.1, by unfold PySem.W.notCls; rw [hv] <;> rfl, by rw [hz.2]; exact ho⟩
  exact PySem.W.kia_one (kit_err (ox := oe) (od := some od) F) I.kIn J e (fun z => nomatch z) fun tk => ⟨.bl b, H, I.kept (t' := tk) fun _ _ z => z, rfl, q⟩
end
section
variable {ρ : Rh} {K : PySem.W.Frag} {E : XK} {δ δ' : Dl} {te ta tb tc : TE} {t u ts : TS} {tt tu : TT} {tA tr : TA} {k k1 k2 k3 : Nat} {P P1 P2 : D → Prop} {PO : Out → Prop} {a b c d d0 : D} {i j : Nat}
/-- raise C(e) -/
theorem sj_raise {C : Addr} (h : EDA ρ K tA δ [d]) (O : OexC K C) (hno : PySem.W.findIn K (.ref C) "value" = some none) : SJ ρ K E (fun _ σ H => tMkO C (spInit K) [] tA σ H fun cls d H' => E cls d H') δ 0 (· = .ex C d) := .mk fun G0 H0 G H σ m D w hm q =>
  h.run G0 H0 G H σ m _ w (by omega) fun ds vs G1 H1 m1 pd w1 g1 l1 ax => by
    subst pd
    cases ax with
    | @cons v _ _ _ hv r =>
      cases r
      refine ⟨by simp, fun x hx => ⟨x, C, v, rfl, O, hno, upd_same, fun dx hdx hne => ⟨rfl, dx, [("value", v)], upd_same, ?_, ?_, ?_⟩⟩⟩
      · rw [upd_ne hne, upd_same]
      · rw [upd_ne hne] at hdx; exact hdx
      · have hdx1 : H1 dx = none := by rw [upd_ne hne] at hdx; exact hdx
        have e : upd (del (upd (upd (upd H1 x (exo x C none)) dx (exd dx [("value", v)])) x (exo x C (some dx))) x) dx (.xd [("value", v)]) = upd H1 dx (.xd [("value", v)]) := by
          funext b
          by_cases z : b = dx
          · subst z; rw [upd_same, upd_same]
          · rw [upd_ne z, upd_ne z]
            by_cases y : b = x
            · subst y; rw [del_same, hx]
            · rw [del_ne y, upd_ne y, upd_ne z, upd_ne y]
        rw [e]
        have g2 := Gd.alloc (o := HO.xd [("value", v)]) w1.gd.sub hdx1
        have w2 := w1.step g2.weak (w1.pot.keep g2)
        exact q (.ex C d) rfl dx v _ _ m1 w2.gd w2.pot (by omega) upd_same (hv.mono g2.gg)
theorem sj_raiseP {C : Addr} (h : EDA ρ K tA δ [d]) (O : OexC K C) (hno : PySem.W.findIn K (.ref C) "value" = some none) (hp : PO (.ex C d)) : SJ ρ K E (fun _ σ H => tMkO C (spInit K) [] tA σ H fun cls d H' => E cls d H') δ 0 PO := (sj_raise h O hno).mono (Nat.le_refl _) fun o e => by rw [e]; exact hp
/-- a def's promise to raise -/
def spXJ (K : PySem.W.Frag) (n : Nat) (pre : Rh → List D → Prop) (c : Nat) (post : List D → Addr → D → Prop) : Sp := fun vs H _ E => ∃ (ρ : Rh) (G : Hp) (ds : List D) (m : Nat), AtL K G vs ds ∧ ds.length = n ∧ Same G H ∧ PotS ρ m H ∧
  (∀ a, Mv ρ a → G a = none) ∧ m + c ≤ Mx ∧ pre ρ ds ∧ ∀ C d p v G' H' m', post ds C d → Gd ρ G H G' H' → PotS ρ m' H' → m' ≤ m + c → G' p = some (.xd [("value", v)]) → At K G' v d → E (.ref C) (some p) H'
theorem spXJ_len {n c : Nat} {pre : Rh → List D → Prop} {post : List D → Addr → D → Prop} {vs : List V} {H : Hp} {Q : VK} {E : XK} (h : spXJ K n pre c post vs H Q E) : vs.length = n := by
  obtain ⟨ρ, G, ds, m, h1, h2, _⟩ := h
  rw [h1.len]; exact h2
theorem body_ofX {N : List Str} {n c : Nat} {pre : Rh → List D → Prop} {post : List D → Addr → D → Prop} {vs : List V} {H : Hp} {Q : VK} {EE : XK}
    (hb : ∀ ρ ds, ds.length = n → pre ρ ds → ∃ k, k ≤ c ∧ SJ ρ K EE ts (initD N.length ds) k (fun o => ∃ C d, o = .ex C d ∧ post ds C d)) (h : spXJ K n pre c post vs H Q EE) :
    ts { nx := fun _ H' => Q .non H', rt := Q } (L2.start N vs) H := by
  obtain ⟨ρ, G, ds, m, ha, hl, hs, hp, hg, hm, hpre, q⟩ := h
  obtain ⟨k, hk, hb⟩ := hb ρ ds hl hpre
  have hvl := ha.len
  have dl : ∀ {i : Nat} {s : Sl}, (initD N.length ds)[i]? = some (some s) → ∃ d, s = .val d ∧ ds[i]? = some d := by
    intro i s e
    unfold initD at e
    by_cases hi : i < ds.length
    · rw [List.getElem?_append_left (by rw [List.length_map]; exact hi), List.getElem?_map, List.getElem?_eq_getElem hi] at e
      cases e
      exact ⟨ds[i], rfl, List.getElem?_eq_getElem hi⟩
    · rw [List.getElem?_append_right (by rw [List.length_map]; omega)] at e
      have e2 := (List.getElem?_replicate).symm.trans e
      split at e2 <;> cases e2
  have w : Wf ρ K G H G H (L2.start N vs) (initD N.length ds) m := by
    refine ⟨?_, Gd.refl hs, hp, fun a e => ⟨?_, hg a e⟩, fun i s e => ?_, fun i j d e n h1 h2 => ?_⟩
    · unfold L2.start initD
      rw [List.length_append, List.length_append, List.length_map, List.length_map, List.length_replicate, List.length_replicate, hvl]
    · exact hp.ne e
    · obtain ⟨d, rfl, hd⟩ := dl e
      obtain ⟨v, hv, hav⟩ := ha.get hd
      exact ⟨v, start_get hv, hav⟩
    · obtain ⟨x, hx, _⟩ := dl h1
      cases hx
  refine hb.run G H G H (L2.start N vs) m _ w (by omega) fun o po => ?_
  obtain ⟨C, d, rfl, pd⟩ := po
  exact fun p v G' H' m' g pp l x a => q C d p v G' H' m' pd g pp (by omega) x a
end
end DN

/-! ground: comb, counts of rows, products, a list many times -/
namespace DN
open PySem PySem.Spec PyProof.Rows L2
variable [Tb]
def rComb : List V → Hp → VK → Prop := fun vs H Q => ∃ a b : Int, vs = [.int a, .int b] ∧ 0 ≤ a ∧ 0 ≤ b ∧ a < 2 ^ 64 ∧ b ≤ 9000 ∧ Q (.int (PySem.W.mcComb a b)) H
theorem cr_comb {X : Cx} : CallR X (.builtin "math.comb") rComb := by
  intro pins s σ H vs us Q I r h
  obtain ⟨a, b, rfl, h1, h2, h3, h4, q⟩ := h
  obtain ⟨t, u, rfl⟩ := Vals.int2 r
  exact PySem.W.mc_comb h1 h2 h3 (.inl h4) fun _ => ⟨.int _, H, I.tok _, ⟨_, rfl⟩, q⟩
theorem sl_listK {X : Cx} (K : PySem.W.Frag) (hK : X.K = K) : SlR X (rSlL K) := by
  subst hK
  exact sl_list
theorem cr_sumK {X : Cx} (K : PySem.W.Frag) (hK : X.K = K) (hc : X.calm = true) : CallR X (.builtin "sum") (rSum K) := by
  subst hK
  exact cr_sum hc
section
variable {ρ : Rh} {K : PySem.W.Frag} {δ : Dl} {ta tb : TE} {k1 k2 : Nat}
theorem cj_comb {a b : Int} (h1 : 0 ≤ a) (h2 : 0 ≤ b) (h3 : a < 2 ^ 64) (h4 : b ≤ 9000) : CJ K rComb [.int a, .int b] (.int (PySem.W.mcComb a b)) := .mk fun xs G H Q hx s q => by
  cases hx with
  | cons h r =>
    cases r with
    | cons h' r =>
      cases r
      cases h
      cases h'
      exact ⟨a, b, rfl, h1, h2, h3, h4, q _ G H (Gd.refl s) (.int _)⟩
/-- [e] * n -/
theorem en_rep {d : D} {n : Int} (ha : ED ρ K ta δ (.lst [d])) (hb : ED ρ K tb δ (.int n)) (h1 : -(2 ^ 63) ≤ n) (h2 : n < 2 ^ 63) (h3 : n.toNat ≤ 1000000) : EN ρ K (tOp rRep ta tb) δ 0 (· = .lst (List.replicate n.toNat d)) := .mk fun G0 H0 G H σ m Q w hm q =>
  (ha).run G0 H0 G H σ m _ w hm fun d1 v G1 H1 m1 p1 w1 g1 l1 x1 => (hb).run G0 H0 G1 H1 σ m1 _ w1 (by omega) fun d2 v2 G2 H2 m2 p2 w2 g2 l2 x2 => by
    subst p1 p2
    cases x2
    have x1' := x1.mono g2.gg
    cases x1' with
    | @lst p xs _ hp hl =>
      cases hl with
      | @cons v _ _ _ hv hl =>
      cases hl
      refine ⟨p, n, [v], rfl, rfl, w2.gd.sub _ _ hp, h1, h2, ?_, ?_⟩
      · show 1 * n.toNat ≤ sizeLine
        have : (1000000 : Nat) ≤ sizeLine := by decide
        omega
      · have e : (List.replicate n.toNat [v]).flatten = List.replicate n.toNat v := by
          generalize n.toNat = k
          induction k with
          | zero => rfl
          | succ k ih => rw [List.replicate_succ, List.flatten_cons, ih, List.replicate_succ]; rfl
        rw [e]
        refine en_fin w w2 (Gd.trans w1.pot g1 g2) (.lst ?_) fun p o G' H' m' w' g' l' => q _ p o G' H' m' rfl w' g' (by omega)
        generalize n.toNat = k
        induction k with
        | zero => exact .nil
        | succ k ih => exact .cons hv ih
end
/-! counts -/
open PySem.W (mcComb)
def cT : Nat → Nat → Int
  | 0, _ => 1
  | t + 1, l => ((List.range (l + 1)).map (cT t)).sum
theorem isum_app (a b : List Int) : (a ++ b).sum = a.sum + b.sum := by
  induction a with
  | nil => simp
  | cons x r ih => rw [List.cons_append, List.sum_cons, List.sum_cons, ih]; omega
theorem cT_succ (t l : Nat) : cT (t + 1) (l + 1) = cT (t + 1) l + cT t (l + 1) := by
  show ((List.range (l + 1 + 1)).map (cT t)).sum = ((List.range (l + 1)).map (cT t)).sum + _
  rw [List.range_succ, List.map_append, isum_app]
  simp
def gC (t l : Nat) : Int := mcComb ((l : Int) + (t : Int)) (t : Int)
theorem gC_0 : ∀ l, l ≤ 60 → gC 0 l = 1 := by decide +kernel
theorem gC_1 : ∀ t, t < 5 → gC (t + 1) 0 = gC t 0 := by decide +kernel
theorem gC_2 : ∀ t, t < 5 → ∀ l, l < 60 → gC (t + 1) (l + 1) = gC (t + 1) l + gC t (l + 1) := by decide +kernel
theorem gC_b : ∀ t, t ≤ 5 → ∀ l, l ≤ 60 → 1 ≤ gC t l ∧ gC t l ≤ 10000000 := by decide +kernel
theorem cT_eq : ∀ t, t ≤ 5 → ∀ l, l ≤ 60 → cT t l = gC t l
  | 0, _, l, hl => (gC_0 l hl).symm
  | t + 1, ht, 0, _ => by
    show ((List.range (0 + 1)).map (cT t)).sum = _
    rw [gC_1 t (by omega), ← cT_eq t (by omega) 0 (by omega)]
    simp
  | t + 1, ht, l + 1, hl => by
    rw [cT_succ, gC_2 t (by omega) l (by omega), cT_eq (t + 1) ht l (by omega), cT_eq t (by omega) (l + 1) hl]
def oR : Nat → List Int
  | 0 => [0]
  | t + 1 => oR t ++ (oR t).map (· + 1)
def waysZ (w o : Int) : Int := ((List.range (w + 1 - o).toNat).map fun (j : Nat) => mcComb w (o + (j : Int))).sum
theorem ways_eq : ∀ w, w ≤ 5 → ∀ o, o ≤ w → (((oR w).filter fun x => decide ((o : Int) ≤ x)).length : Int) = waysZ (w : Nat) (o : Nat) := by decide +kernel
theorem ways_b : ∀ w, w ≤ 5 → ∀ o, o ≤ w → 1 ≤ waysZ (w : Nat) (o : Nat) ∧ waysZ (w : Nat) (o : Nat) ≤ 10000000 := by decide +kernel
theorem oR_len : ∀ w, w ≤ 5 → (oR w).length ≤ 32 := by decide +kernel
/-! products -/
def mulL (m : Int) (l : List Int) : Int := l.foldl (· * ·) m
theorem mulL_app (m : Int) (a b : List Int) : mulL m (a ++ b) = mulL (mulL m a) b := List.foldl_append
theorem mulL_one (m x : Int) : mulL m [x] = m * x := rfl
def FacL (l : List Int) : Prop := ∀ f ∈ l, 1 ≤ f ∧ f ≤ 10000000
theorem mulL_ge : ∀ {l : List Int} {m : Int}, 1 ≤ m → FacL l → m ≤ mulL m l
  | [], m, _, _ => Int.le_refl _
  | x :: r, m, hm, hl => by
    obtain ⟨x1, x2⟩ := hl x (List.mem_cons_self ..)
    have h1 : m * 1 ≤ m * x := Int.mul_le_mul_of_nonneg_left x1 (by omega)
    have h2 : m ≤ m * x := by omega
    have := mulL_ge (l := r) (m := m * x) (by omega) fun f hf => hl f (List.mem_cons_of_mem _ hf)
    show m ≤ mulL (m * x) r
    omega
theorem mulL_take {l : List Int} (h : FacL l) (i : Nat) : 1 ≤ mulL 1 (l.take i) ∧ mulL 1 (l.take i) ≤ mulL 1 l := by
  have ht : FacL (l.take i) := fun f hf => h f (List.mem_of_mem_take hf)
  have hd : FacL (l.drop i) := fun f hf => h f (List.mem_of_mem_drop hf)
  have h1 := mulL_ge (m := 1) (by decide) ht
  refine ⟨h1, ?_⟩
  have h2 := mulL_ge h1 hd
  rw [← mulL_app, List.take_append_drop] at h2
  exact h2
theorem mulL_lt : ∀ {l : List Int} {m : Int} {a : Nat}, 1 ≤ m → m.natAbs < 2 ^ a → FacL l → (mulL m l).natAbs < 2 ^ (a + 24 * l.length)
  | [], m, a, _, hm, _ => hm
  | x :: r, m, a, h1, hm, hl => by
    obtain ⟨x1, x2⟩ := hl x (List.mem_cons_self ..)
    have hx : x.natAbs < 2 ^ 24 := by omega
    have e : (m * x).natAbs < 2 ^ (a + 24) := by
      rw [Int.natAbs_mul, Nat.pow_add]
      exact Nat.mul_lt_mul'' hm hx
    have h2 : 1 ≤ m * x := by
      have : m * 1 ≤ m * x := Int.mul_le_mul_of_nonneg_left x1 (by omega)
      omega
    have := mulL_lt (l := r) (m := m * x) (a := a + 24) h2 e fun f hf => hl f (List.mem_cons_of_mem _ hf)
    rw [List.length_cons, show a + 24 * (r.length + 1) = a + 24 + 24 * r.length by omega]
    exact this
theorem mulL_step {l : List Int} {i : Nat} {x : Int} (h : l[i]? = some x) : mulL 1 (l.take (i + 1)) = mulL 1 (l.take i) * x := by
  rw [take_snoc h, mulL_app]; rfl
end DN

/-! ground: texts compared, a tuple's part, an item of any kind in a list of texts -/
namespace DN
open PySem PySem.Spec PyProof.Rows L2
variable [Tb]
theorem pe_fldK {X : Cx} (K : PySem.W.Frag) {e : Expr} {f : Str} {pos : Pos} {ta : TE} (hK : X.K = K) (he : PE X e ta) (hb : attributeBase e f X.env (eval e X.env) = eval e X.env) : PE X (.Attribute e f pos) (tFld K ta f) := by
  subst hK
  exact pe_fld he hb
theorem op_in_seqK {X : Cx} (K : PySem.W.Frag) (hK : X.K = K) : OpR X (compareOp .In) (rIn K false) := by
  subst hK
  exact op_in_seq
theorem op_notIn_seqK {X : Cx} (K : PySem.W.Frag) (hK : X.K = K) : OpR X (compareOp .NotIn) (rIn K true) := by
  subst hK
  exact op_notIn_seq
theorem op_inDK {X : Cx} (K : PySem.W.Frag) (hK : X.K = K) (hu : X.A.units + 65 < cLine) : OpR X (compareOp .In) (rInD K) := by
  subst hK
  exact op_inD hu
theorem sl_tupAK {X : Cx} (K : PySem.W.Frag) (hK : X.K = K) : SlR X (rSlA K) := by
  subst hK
  exact sl_tupA
def IteT (K : PySem.W.Frag) (a : Addr) (c : Int) : It :=
  ⟨fun i H => ∃ (xs : List V) (x : V), SqT K H a xs ∧ xs[i]? = some x, fun i H v H' => ∃ T x, v = .ref T ∧ H T = none ∧ H' = upd H T (.tup [.int (c + (i : Nat)), x]) ∧ ∀ xs, SqT K H a xs → xs[i]? = some x, fun i H => ∃ xs : List V, SqT K H a xs ∧ xs.length ≤ i⟩
theorem turn_enumT {P : Program} {w : World} {K : PySem.W.Frag} {elts : List Expr} {kk : Nat} {tpos : Pos} (a e it : Addr) (c : Int) (hai : a ≠ it) (hae : e ≠ a) :
    L2.Turn P w K (.Tuple elts kk tpos) (IteT K a c) [e, it] e (fun i h => (∃ old, IsEnum h e it (c + ((i : Nat) : Int)) old) ∧ h.IsTupleIter it a i ∧ e ≠ it) where
  mem := by simp
  obj := fun i h st b hb => by
    obtain ⟨⟨old, he⟩, ⟨o, ho, hc, hd⟩, _⟩ := st
    have e' : b = e ∨ b = it := by simpa using hb
    rcases e' with z | z
    · rw [z]; exact ⟨_, he, fun v q => nomatch q⟩
    · rw [z]; exact ⟨o, ho, fun v q => by rw [hd] at q; cases q⟩
  keep := fun i h h' st k => let ⟨⟨old, he⟩, hi, hne⟩ := st; ⟨⟨old, k e (by simp) _ he⟩, hi.at fun o q => k it (by simp) o q, hne⟩
  item := by
    intro X hP hw hK hc i pins s σ H E I hf st hg
    subst hP hw hK
    obtain ⟨⟨old, he⟩, hit, hne⟩ := st
    obtain ⟨xs, x, hq, hx⟩ := hg
    obtain ⟨its, rv, p, hz⟩ := I.tuple hq
    obtain ⟨u, hu, ru⟩ := rv.get hx
    have hel : e < s.heap.objs.size := Heap.lt_size he
    have hil : it < s.heap.objs.size := by obtain ⟨_, q, _⟩ := hit; exact Heap.lt_size q
    have hlt : i < its.toArray.size := by
      have := (List.getElem?_eq_some_iff.mp hu).1
      simpa using this
    have hh : X.A.handled = none := I.ok.hd hc
    refine wpAny_pyNext_enum_itemC (Draws.tuple (A := X.A.in1) hh it a hai its.toArray) he ⟨hit, p⟩ hlt hne (by simp [hne, hae]) fun x' h' tk hP ho hit' hT hsz hk => ?_
    have hu2 : x' = u := by
      have : its.toArray[i]? = some u := by simpa using hu
      have q : its.toArray[i]? = some x' := hP
      rw [this] at q
      exact (Option.some.inj q).symm
    subst hu2
    obtain ⟨hit', _⟩ := hit'
    refine ⟨_, rfl, wpAny_letOwnedTupleGo_enum (s := { s with heap := h', toks := tk + 1 }) ho fun h'' he' sb => ?_⟩
    have hT2 : h''.get? s.heap.objs.size = some { cls := .type "tuple", data := .seq #[.int (c + ((i : Nat) : Int)) tk, x'] } := (sb.2 _ (Nat.ne_of_gt hel)).trans hT
    have new : ObjOk X.prog X.w (upd H s.heap.objs.size (.tup [.int (c + (i : Nat)), x])) h'' s.heap.objs.size (.tup [.int (c + (i : Nat)), x]) :=
      ⟨by show 2 ≤ sizeLine; decide, [.int (c + ((i : Nat) : Int)) tk, x'], .cons ⟨_, rfl⟩ (.cons ru .nil), ⟨_, hT2, rfl, _, rfl⟩⟩
    have I1 : Inv X pins σ (upd H s.heap.objs.size (.tup [.int (c + (i : Nat)), x])) { s with heap := h'', toks := tk + 1 } :=
      I.turnedNew (ch := [e, it]) (fun b ob hb q => (sb.2 b (fun z => hb (by simp [z]))).trans (hk b ob (fun z => hb (by simp [z])) (fun z => hb (by simp [z])) q)) hf (Nat.le_refl _) new
    refine ⟨.ref s.heap.objs.size, _, I1, rfl, ⟨_, x, rfl, I.hok.fresh (Nat.le_refl _), rfl, fun ys hy => by rw [I.tuple_inj hy hq]; exact hx⟩, ⟨⟨x', ?_⟩, hit'.at fun o q => (sb.2 it (Ne.symm hne)).trans q, hne⟩, fun b hb => ?_⟩
    · have e1 : c + ((i + 1 : Nat) : Int) = c + (i : Int) + 1 := by omega
      rw [e1]; exact he'
    · have hb' : b < s.heap.objs.size := by
        have e' : b = e ∨ b = it := by simpa using hb
        rcases e' with z | z
        · rw [z]; exact hel
        · rw [z]; exact hil
      rw [upd_ne (Nat.ne_of_lt hb')]
      exact (hf b hb).1
  done := by
    intro X hP hw hK hc i pins s σ H E I hf st hg
    subst hP hw hK
    obtain ⟨⟨old, he⟩, hit, hne⟩ := st
    obtain ⟨xs, hq, hx⟩ := hg
    obtain ⟨its, rv, p, hz⟩ := I.tuple hq
    obtain ⟨f0, f1, f2, f3, f4, f5⟩ := hf it (by simp)
    have hl := rv.length
    have hT : s.TypeIs (.ref e) "enumerate" := ⟨_, he, rfl⟩
    unfold pyNext
    refine wpAny_bind (wpAny_attempt (wpAny_callSpecial?_slot (name := Str.ofString "__next__") hT F.slot_enumerate_next
      (wpAny_call_entry F.slot_enumerate_next hT F.entry_enumerate_next ?_ (F.args_enumerate_next_1 _))))
    show wpAny _ _ (field (.ref e) 2 >>= _) _ _ _
    refine wpAny_bind (wpAny_field he rfl (x := .ref it) rfl ?_)
    refine wpAny_bind (PySem.wpAny_nextOf_tuple_end (I.ok.hd hc) hit p (by simp; omega) fun h' x he' hx' => ?_)
    obtain ⟨o, ho, hc'⟩ := hx'
    refine wpAny_bind (wpAny_isInstance (T := "StopIteration") (b := true) ⟨o, ho, hc'⟩ isSubtype_stop ?_)
    exact wpAny_pure ⟨rfl, I.turned (t' := s.toks) (fun b o hb q => he' b o hb q) f0 f1 f3 f4 f5⟩
  self := fun A i s Q E st h => let ⟨⟨_, he⟩, _⟩ := st; wpAny_pyIter_enum he h
/-- enumerate(v), v told by how its walk begins -/
theorem enumT_new {v : Value} {ob : Obj} {St : Heap → Prop} (B : Begins v ob St) :
    Meets (Builtin.«enumerate.__new__» ⟨[.type "enumerate", v], []⟩) (fun _ R s => St s.heap ∧
      R (.ok (.ret (.ref (s.heap.push ob).objs.size)))
        { s with heap := (s.heap.push ob).push { cls := .type "enumerate", data := .fields #[.none, .bool false, .ref s.heap.objs.size, rawInt 0, .none, .none] } }) :=
  .of_wp fun P w₀ A₀ R₀ sh hh => by
    obtain ⟨hp, gg, dd, tk, os⟩ := sh
    have known := sub_enumerate
    have walk : ∀ {A₁ : Around} {E₁ : Value → Shared → Prop} {Q₁ : Value → Shared → Prop}, Q₁ (.ref hp.objs.size) ⟨hp.push ob, gg, dd, tk, os⟩ →
        wpAny (model P w₀) A₁ (pyIter v) Q₁ E₁ ⟨hp, gg, dd, tk, os⟩ := fun z => B.iter P w₀ _ _ ⟨hp, gg, dd, tk, os⟩ _ hh.1 z
    have fin := hh.2
    wp_walk using walk
    apply wpAny_stack_any
    intro st
    apply wpAny_pure
    split
    case h_1 c _ _ _ _ _ => cases (c == Value.type "enumerate") <;> (wp_walk using walk) <;> exact ⟨_, rfl, fin⟩
    all_goals ((wp_walk using walk); exact ⟨_, rfl, fin⟩)
section
variable {prog : Program} {w : World} {A : Around} {E : Value → Shared → Prop} {s : Shared}
theorem enumT_call {v : Value} {ob : Obj} {St : Heap → Prop} {Q : Value → Shared → Prop} (B : Begins v ob St) (h1 : St s.heap)
    (fin : ∀ h', IsEnum h' (s.heap.objs.size + 1) s.heap.objs.size 0 .none → h'.get? s.heap.objs.size = some ob → (∀ b u, s.heap.get? b = some u → h'.get? b = some u) → Q (.ref (s.heap.objs.size + 1)) { s with heap := h' }) :
    wpAny (model prog w) A (call (.type "enumerate") [v]) Q E s := by
  have sz : (s.heap.push ob).objs.size = s.heap.objs.size + 1 := Heap.size_push ..
  have en := Heap.get?_push_size (s.heap.push ob) (o := { cls := .type "enumerate", data := .fields #[.none, .bool false, .ref s.heap.objs.size, rawInt 0, .none, .none] }) rfl
  rw [sz] at en
  refine callType_new F.called_enumerate (by decide) (F.typeCall_enumerate_1 _) (F.newCall_enumerate_1 _) (fun x => F.args_object_init_2 x _) F.entry_enumerate_new (enumT_new B) ⟨h1, ?_⟩
  show _ ∧ _
  rw [sz]
  exact ⟨⟨_, en, rfl⟩, fin _ en (Heap.get?_push_of_some _ (Heap.get?_push_size _ B.free)) fun b u x => Heap.get?_push_of_some _ (Heap.get?_push_of_some _ x)⟩
end
def iEnumT (K : PySem.W.Frag) (ta : TA) : TI := fun σ H R => ta σ H fun vs H1 => ∃ a xs, vs = [.ref a] ∧ SqT K H1 a xs ∧ R (IteT K a 0) H1
theorem pi_enumT {X : Cx} {e : Expr} {ta : TA} {p pos tpos : Pos} {elts : List Expr} {kk : Nat} (hg : Gl X "enumerate") (hm : X.mg "enumerate" = none) (ha : PA X [e] ta) (hs : starEach [e] X.env = [(false, eval e X.env)] := by rfl) :
    PI X (.Tuple elts kk tpos) (.Call (.Name "enumerate" p) [e] [] pos) (iEnumT X.K ta) := by
  refine ⟨fun pins s σ H R I h => ?_⟩
  refine Call_ (ld_blt I hg hm boot_enumerate (PyProof.Rows.callWith_type1 (thn (ha.run pos pins s σ H _ I h) fun us s1 ⟨vs, H1, I1, r1, q1⟩ => ?_) hs rfl))
  obtain ⟨a, xs, ex, hq, q⟩ := q1
  subst ex
  cases r1 with
  | cons r rr =>
    cases rr
    cases r
    obtain ⟨its, rv, p', hz⟩ := I1.tuple hq
    have hall : a < s1.heap.objs.size := by obtain ⟨_, q, _⟩ := p'; exact Heap.lt_size q
    refine enumT_call (begins_tuple a its.toArray) p' fun h' he hit hk => wpAny_pyIter_enum he ?_
    have I2 : Inv X pins σ H1 { s1 with heap := h' } := I1.kept (t' := s1.toks) hk
    refine ⟨s1.heap.objs.size + 1, [s1.heap.objs.size + 1, s1.heap.objs.size], _, _, H1, rfl, I2, turn_enumT a (s1.heap.objs.size + 1) s1.heap.objs.size 0 (Nat.ne_of_lt hall) (Nat.ne_of_gt (Nat.lt_succ_of_lt hall)), ⟨⟨.none, by simpa using he⟩, ⟨_, hit, rfl, rfl⟩, Nat.succ_ne_self _⟩, fun b hb => ?_, q⟩
    have e' : b = s1.heap.objs.size + 1 ∨ b = s1.heap.objs.size := by simpa using hb
    have hle : s1.heap.objs.size ≤ b := by
      rcases e' with z | z
      · rw [z]; exact Nat.le_add_right _ _
      · rw [z]; exact Nat.le_refl _
    exact I1.fpOk hle (I1.hok.fresh hle)
section
variable {ρ : Rh} {K : PySem.W.Frag} {δ : Dl} {te ta tb : TE} {k1 k2 : Nat}
theorem rj_ltS {x y : Str} : RJ K (fun x y H Q => ∃ i j, x = .str i ∧ y = .str j ∧ Q (.bl (decide (i.cps.toList < j.cps.toList))) H) (.str x) (.str y) (.bl (decide (x.cps.toList < y.cps.toList))) := .mk fun v w G H Q hx hy s q => by
  cases hx; cases hy
  exact ⟨x, y, rfl, rfl, q _ G H (Gd.refl s) (.bl _)⟩
theorem ed_slA {ds : List D} {tl th : TO} {lo hi : Option Int} (h : ED ρ K te δ (.tup ds)) (hl : EO ρ K tl δ lo) (hh : EO ρ K th δ hi) : ED ρ K (tSl (rSlA K) te tl th) δ (.tup (cutD ds lo hi)) := .mk fun G0 H0 G H σ m Q w hm q =>
  (h).run G0 H0 G H σ m _ w hm fun d v G1 H1 m1 px w1 g1 l1 ax => by
    subst px
    refine (hl).run G0 H0 G1 H1 σ m1 _ w1 (by omega) fun G2 H2 m2 w2 g2 l2 => ?_
    refine (hh).run G0 H0 G2 H2 σ m2 _ w2 (by omega) fun G3 H3 m3 w3 g3 l3 => ?_
    have ax2 := (ax.mono g2.gg).mono g3.gg
    have g13 := Gd.trans w2.pot (Gd.trans w1.pot g1 g2) g3
    cases ax2 with
    | @tup p xs _ hp hpl =>
      have hl := hpl.len
      refine ⟨p, xs, rfl, Same.sqT w3.gd.sub hp, fun e => ?_, fun e x hx => ?_⟩
      · have e2 : cutD ds lo hi = ds := by
          unfold cutD
          rw [← hl, e.1, e.2, List.drop_zero, Nat.sub_zero, hl, List.take_length]
        exact q _ _ G3 H3 m3 rfl w3 g13 (by omega) (by rw [e2]; exact .tup hp hpl)
      · have g4 := Gd.alloc (o := HO.tup (cutV xs lo hi)) w3.gd.sub hx
        exact q _ (.ref x) _ _ m3 rfl (w3.step g4.weak (w3.pot.keep g4)) (Gd.trans w3.pot g13 g4.weak) (by omega) (.tup (.inl (.inl upd_same)) ((hpl.cut lo hi).mono g4.gg))
theorem ij_enumT {tA : TA} {ds : List D} (h : EDA ρ K tA δ [.tup ds]) : IJ ρ K (iEnumT K tA) δ 0 (· = enumD ds) := .mk fun G0 H0 G H σ m R w hm q =>
  (h).run G0 H0 G H σ m _ w hm fun es vs G' H' m' pd w' g l x => by
    subst pd
    cases x with
    | cons x r =>
      cases r
      cases x with
      | @tup a xs _ ha hl =>
        have e := hl.len
        have wk : L2.Walk (IteT K a 0) xs.length (fun H => SqT K H a xs) (YPair (fun i => some (.int (0 + (i : Nat)))) (fun i => xs[i]?)) := by
          refine ⟨fun i _ hi z => ⟨xs, xs[i], z, by simp [hi]⟩, fun _ z => ⟨xs, z, Nat.le_refl _⟩, fun i H v H' _ z y => ?_⟩
          obtain ⟨T, x, h1, h2, h3, h4⟩ := y
          exact ⟨T, .int (0 + (i : Nat)), x, h1, h2, h3, rfl, h4 xs z⟩
        refine ⟨a, xs, rfl, Same.sqT w'.gd.sub ha, q _ (IteT K a 0) G' H' (fun H => SqT K H a xs) _ m' rfl w' g l (by simp only [enumD, List.length_zipWith, List.length_range, Nat.min_self]; rw [← e]; exact wk) (fun H2 s => Same.sqT s ha) ?_⟩
        intro i x H1 H2 Gx hi s1 s2 y
        obtain ⟨T, x, y, rfl, hT, rfl, e1, e2⟩ := y
        cases e1
        obtain ⟨d, hd, hat⟩ := AtL.getv (hl.mono s1) e2
        obtain ⟨G2, g2, h2⟩ := pair_at s2 hT rfl (.int (0 + (i : Nat))) hat
        refine ⟨G2, _, ?_, g2, h2⟩
        have hi2 : i < ds.length := (List.getElem?_eq_some_iff.mp hd).1
        simp [enumD, hi2, hd, List.getElem?_range, List.getElem?_zipWith]
        exact (List.getElem?_eq_some_iff.mp hd).2
end
end DN

/-! ground: t[::-1], t + u, x is True, sorted names, calls by keywords alone, lists that grow by what is drawn -/
namespace DN
open PySem PySem.Spec PyProof.Rows L2
variable [Tb]
section
variable {prog : Program} {w : World} {A : Around} {E : Value → Shared → Prop} {s : Shared}
theorem back_places (n : Nat) : Builtin.Slice.slicePlaces ((n : Int) - 1) (-1) (-1) = n := by
  unfold Builtin.Slice.slicePlaces
  have : ¬ ((-1 : Int) > 0) := by omega
  simp only [this, if_false]
  by_cases h : n = 0
  · subst h; rfl
  · rw [if_pos (by omega)]
    have : ((n : Int) - 1 - -1 - 1) / (- -1) + 1 = n := by
      show ((n : Int) - 1 - -1 - 1) / 1 + 1 = n
      rw [Int.ediv_one]; omega
    rw [this]
    exact Int.toNat_natCast n
theorem back_pick (xs : Array Value) : ((List.range xs.size).filterMap fun (m : Nat) => xs[(((xs.size : Int) - 1) + (m : Int) * (-1)).toNat]?).toArray = xs.toList.reverse.toArray := by
  congr 1
  have e : ∀ m ∈ List.range xs.size, xs[(((xs.size : Int) - 1) + (m : Int) * (-1)).toNat]? = some (xs.toList.reverse.getD m .none) := fun m hm => by
    have hm := List.mem_range.mp hm
    have e1 : (((xs.size : Int) - 1) + (m : Int) * (-1)).toNat = xs.size - 1 - m := by omega
    rw [e1, List.getD_eq_getElem?_getD, List.getElem?_reverse (by rw [Array.length_toList]; exact hm), Array.length_toList, Array.getElem?_toList]
    have h2 : xs.size - 1 - m < xs.size := by omega
    rw [Array.getElem?_eq_getElem h2]
    rfl
  have e2 : ((List.range xs.size).filterMap fun (m : Nat) => xs[(((xs.size : Int) - 1) + (m : Int) * (-1)).toNat]?) = (List.range xs.size).map fun m => xs.toList.reverse.getD m .none := by
    generalize List.range xs.size = l at e
    induction l with
    | nil => rfl
    | cons x r ih =>
      rw [List.filterMap_cons, e x (List.mem_cons_self ..), List.map_cons, ih fun m hm => e m (List.mem_cons_of_mem _ hm)]
  rw [e2]
  refine List.ext_getElem (by rw [List.length_map, List.length_range, List.length_reverse, Array.length_toList]) fun i h1 h2 => ?_
  rw [List.getElem_map, List.getElem_range, List.getD_eq_getElem?_getD, List.getElem?_eq_getElem h2]
  rfl
theorem tuple_back {t sl : Addr} {items : Array Value} {vs : Value} {Q : Value → Shared → Prop} (ht : IsTup s.heap t items) (hs : s.heap.IsSliceOf sl .none .none vs) (ps : IsPart vs (some (-1)))
    (q : Q (.ref s.heap.objs.size) { s with heap := s.heap.push { cls := .type "tuple", data := .seq items.toList.reverse.toArray } }) (hsz : items.size ≤ sizeLine) : wpAny (model prog w) A (getItem (.ref t) (.ref sl)) Q E s := by
  have fits : sizeOk (.seq items.toList.reverse.toArray) := by
    show items.toList.reverse.toArray.size ≤ sizeLine
    rw [List.size_toArray, List.length_reverse, Array.length_toList]
    exact hsz
  obtain ⟨ob, h1, h2, h3⟩ := id hs
  have ty : s.TypeIs (.ref sl) "slice" := ⟨ob, h1, h2⟩
  unfold getItem
  try with_reducible apply wpAny_holding
  first | (apply wpAny_bind; apply wpAny_pure) | skip
  apply wpAny_bind
  refine wpAny_sequenceKey ht.typeIs (by decide) ?_
  apply wpAny_bind
  refine wpAny_callSpecial?_slot (name := Str.ofString "__getitem__") ht.typeIs PyProof.Rows.slot_tuple_getitem (wpAny_call_entry PyProof.Rows.slot_tuple_getitem ht.typeIs PyProof.Rows.entry_tuple_getitem ?_ (PyProof.Rows.args_tuple_getitem _ _))
  show wpAny _ _ (Builtin.Tuple.tupleItemsOf (.ref t) >>= _) _ _ s
  apply wpAny_bind
  refine tupleItemsOf_ ht ?_
  apply wpAny_bind
  refine wpAny_typeOf ty ?_
  rw [if_pos (by decide)]
  apply wpAny_bind
  unfold Builtin.Slice.sliceApplied Builtin.Slice.sliceFields
  refine wpAny_bind (wpAny_bind (wpAny_field h1 h3 (x := .none) rfl (wpAny_bind (wpAny_field h1 h3 (x := .none) rfl (wpAny_bind (wpAny_field h1 h3 (x := vs) rfl (wpAny_pure ?_)))))))
  apply wpAny_bind
  refine HT.slicePart_ ps ?_
  show wpAny _ _ (if ((-1 : Int) == 0) = true then _ else _) _ _ s
  rw [if_neg (by decide)]
  refine wpAny_bind (slicePart_none (wpAny_bind (slicePart_none (wpAny_bind (wpAny_pure ?_)))))
  show wpAny _ _ (pure (((items.size : Int) - 1), (-1 : Int), Builtin.Slice.slicePlaces ((items.size : Int) - 1) (-1) (-1))) _ _ s
  rw [back_places]
  apply wpAny_pure
  show wpAny _ _ (if ((((items.size : Int) - 1) == 0) && ((-1 : Int) == 1) && (items.size == items.size)) = true then _ else _) _ _ s
  rw [if_neg (by
    rw [Bool.and_eq_true, Bool.and_eq_true]
    intro h
    exact absurd h.1.2 (by decide)), back_pick]
  first
    | exact wpAny_bind (m := Builtin.Tuple.tupleExact _) (wpAny_newObj_type (wpAny_pure ⟨_, rfl, wpAny_pure q⟩) fits)
    | exact wpAny_bind (m := Builtin.Tuple.tupleExact _) (wpAny_newObj_type (wpAny_bind (wpAny_pure (wpAny_pure ⟨_, rfl, wpAny_pure q⟩))) fits)
    | exact wpAny_bind (wpAny_bind (m := Builtin.Tuple.tupleExact _) (wpAny_newObj_type (wpAny_pure (wpAny_pure ⟨_, rfl, wpAny_pure q⟩)) fits))
    | exact wpAny_bind (wpAny_bind (m := Builtin.Tuple.tupleExact _) (wpAny_newObj_type (wpAny_pure ⟨_, rfl, wpAny_pure q⟩) fits))
end
section
variable {X : Cx}
/-- t[::-1], t a tuple -/
def tBackT (K : PySem.W.Frag) (te : TE) : TE := fun σ H Q => te σ H fun x H1 => ∃ a xs, x = .ref a ∧ SqT K H1 a xs ∧ ∀ p, H1 p = none → Q (.ref p) (upd H1 p (.tup xs.reverse))
theorem pe_backT {e : Expr} {te : TE} {k : Nat} {p1 p2 p3 pos : Pos} (he : PE X e te) : PE X (.Subscript e (.Slice none none (some (.UnaryOp .USub (.Constant (.int 1) k p1) p2)) p3) pos) (tBackT X.K te) := by
  refine ⟨fun pins s σ H Q I h => ?_⟩
  refine Subscript_ (thn (he.run pins s σ H _ I h) fun v s1 ⟨x, H1, I1, r1, z1⟩ => ?_)
  obtain ⟨a, xs, rfl, hx, q⟩ := z1
  cases r1
  have step : PO X (some (.UnaryOp .USub (.Constant (.int 1) k p1) p2)) (tPart (tUn (rU fun i => .int (-i)) (tC (.int 1)))) := po_some (pe_un un_neg pe_int)
  refine wpAny_Slice (thn (po_none.run pins s1 σ H1 (fun o H2 => o = none ∧ H2 = H1) I1 ⟨rfl, rfl⟩) fun vl s2 ⟨l, H2, I2, pl, y1, y2⟩ => ?_)
  subst y1 y2
  refine thn (po_none.run pins s2 σ H2 (fun o H3 => o = none ∧ H3 = H2) I2 ⟨rfl, rfl⟩) fun vu s3 ⟨u, H3, I3, pu, y3, y4⟩ => ?_
  subst y3 y4
  refine thn (step.run pins s3 σ H3 (fun o H4 => o = some (-1) ∧ H4 = H3) I3 ⟨1, rfl, -1, rfl, rfl, rfl⟩) fun vs s4 ⟨o, H4, I4, ps, y5, y6⟩ => ?_
  subst y5 y6
  have I5 : Inv X pins σ H4 { s4 with heap := s4.heap.push { cls := .type "slice", data := .fields #[vl, vu, vs] } } := I4.kept (t' := s4.toks) fun b ob z => Heap.get?_push_of_some _ z
  obtain ⟨its, r, ht, hz⟩ := I5.tuple hx
  cases pl
  cases pu
  show wpAny (model X.prog X.w) X.A (subscriptTail e (.Slice none none (some (.UnaryOp .USub (.Constant (.int 1) k p1) p2)) p3) (.ref a) (.ref s4.heap.objs.size)) (EP X pins σ Q) X.xe { s4 with heap := s4.heap.push { cls := .type "slice", data := .fields #[.none, .none, vs] } }
  refine tail_any (ops := [.ref a, .ref s4.heap.objs.size]) ht.typeIs (PyProof.Rows.slot_tuple_getitem.lookup) ?_ (by with_unfolding_all rfl)
  have hlen := r.length
  refine tuple_back ht (Heap.IsSliceOf.new _ .none .none vs) ps ?_ (by rw [List.size_toArray]; omega)
  refine ⟨.ref _, _, I5.laid (t' := s4.toks) (o := .tup xs.reverse) (fun b ob z => Heap.get?_push_of_some _ z) (Nat.le_refl _) ?_, rfl, q _ (I5.hok.fresh (Nat.le_refl _))⟩
  exact ⟨by rw [List.length_reverse]; exact hz, _, r.reverse, IsTup.new _ _⟩
end
theorem passAt0 {X : Cx} {σ : L2.St} {E : XK} : PassesAt CX0 X σ E := fun _ _ _ _ _ _ h => h.elim
def gK2 {α : Type} (us ws : List α) : List α := match us, ws with
  | [], [y, x] => [x, y]
  | _, _ => []
def gK3 {α : Type} (us ws : List α) : List α := match us, ws with
  | [], [z, y, x] => [x, y, z]
  | _, _ => []
section
variable {ρ : Rh} {K : PySem.W.Frag} {E : XK} {δ : Dl} {te ta tb : TE} {tA : TA} {u : TS} {i k k1 : Nat} {d : D} {P : D → Prop} {PO : Out → Prop}
theorem AtL.rev {G : Hp} : ∀ {vs : List V} {ds : List D}, AtL K G vs ds → AtL K G vs.reverse ds.reverse
  | _, _, .nil => .nil
  | _, _, .cons h t => by
    rw [List.reverse_cons, List.reverse_cons]
    exact (AtL.rev t).app (.cons h .nil)
theorem ed_backT {ds : List D} (h : ED ρ K te δ (.tup ds)) : ED ρ K (tBackT K te) δ (.tup ds.reverse) := .mk fun G0 H0 G H σ m Q w hm q =>
  (h).run G0 H0 G H σ m _ w hm fun d v G1 H1 m1 px w1 g1 l1 ax => by
    subst px
    cases ax with
    | @tup p xs _ hp hpl =>
      refine ⟨p, xs, rfl, Same.sqT w1.gd.sub hp, fun t ht => ?_⟩
      have g4 := Gd.alloc (o := HO.tup xs.reverse) w1.gd.sub ht
      exact q _ (.ref t) _ _ m1 rfl (w1.step g4.weak (w1.pot.keep g4)) (Gd.trans w1.pot g1 g4.weak) (by omega) (.tup (.inl (.inl upd_same)) (hpl.rev.mono g4.gg))
theorem rj_catA {ds es : List D} (hl : ds.length + es.length ≤ 1000000) : RJ K (rCatA K) (.tup ds) (.tup es) (.tup (ds ++ es)) := .mk fun x y G H Q hx hy s q => by
  cases hx with
  | @tup a xs _ ha hpa =>
    cases hy with
    | @tup b ys _ hb hpb =>
      have e1 := hpa.len
      have e2 := hpb.len
      refine ⟨a, b, xs, ys, rfl, rfl, Same.sqT s ha, Same.sqT s hb, by rw [e1, e2]; exact Nat.le_trans hl (by decide), fun z => ?_, fun _ z => ?_, fun _ _ t ht => ?_⟩
      · subst z
        cases hpa
        exact q _ G H (Gd.refl s) (.tup hb hpb)
      · subst z
        cases hpb
        rw [List.append_nil] at q
        exact q _ G H (Gd.refl s) (.tup ha hpa)
      · have g4 := Gd.alloc (o := HO.tup (xs ++ ys)) s ht
        exact q (.ref t) _ _ g4 (.tup (.inl (.inl upd_same)) ((hpa.app hpb).mono g4.gg))
theorem rj_isB {a b : Bool} : RJ K rIsB (.bl a) (.bl b) (.bl (decide (a = b))) := .mk fun x y G H Q hx hy s q => by
  cases hx; cases hy
  exact ⟨a, b, rfl, rfl, q _ G H (Gd.refl s) (.bl _)⟩
/-- sorted(names) -/
theorem en_sortedS {PS : List Str → Prop} (h : EJ ρ K te δ k (fun d => ∃ ns : List Str, d = .lst (ns.map D.str) ∧ PS ns)) (hn : ∀ ns, PS ns → ns.length < 64) : EN ρ K (tCB (rSortedS K) (tCons te tNil)) δ k (fun d => ∃ ns ys : List Str, d = .lst (ys.map D.str) ∧ PS ns ∧ ys.Perm ns ∧ sortedS ys = true) := .mk fun G0 H0 G H σ m Q w hm q =>
  (h).run G0 H0 G H σ m _ w (by omega) fun d v G1 H1 m1 px w1 g1 l1 ax => by
    obtain ⟨ns, rfl, ps⟩ := px
    cases ax with
    | @lst p xs _ hp hpl =>
      have exs := hpl.strs
      subst exs
      refine ⟨p, ns, rfl, .inl (.inl (w1.gd.sub _ _ hp)), hn ns ps, fun ys t hper hs ht => ?_⟩
      refine en_fin w w1 g1 (d := .lst (ys.map D.str)) (o := .lst (ys.map V.str)) (.lst (atL_strs _)) (fun p o G' H' m' w' g' l' => q _ p o G' H' m' ⟨ns, ys, rfl, ps, hper, hs⟩ w' g' (by omega)) t ht
theorem ed_callK2 {pre : Rh → List D → Prop} {post : List D → D → Prop} {EE : XK} {sp : Sp} {x y r : D} (h : EDA ρ K tA δ [y, x]) (hsp : ∀ vs H Q, spJ K 2 pre 0 post vs H Q EE → sp vs H Q EE) (hp : pre ρ [x, y]) (hr : ∀ d, post [x, y] d → d = r) :
    ED ρ K (fun σ H Q => tA σ H fun zs H1 => sp (gK2 [] zs) H1 Q EE) δ r := .mk fun G0 H0 G H σ m Q w hm q =>
  (h).run G0 H0 G H σ m _ w hm fun ds vs G1 H1 m1 px w1 g1 l1 ax => by
    subst px
    cases ax with
    | cons h1 ax =>
    cases ax with
    | cons h2 ax =>
    cases ax
    exact hsp _ _ _ ⟨ρ, G1, [x, y], m1, .cons h2 (.cons h1 .nil), rfl, w1.gd.sub, w1.pot, fun a e => w1.gnone e, by omega, hp, fun d v G2 H2 m2 pd g2 p2 l2 a2 => q d v G2 H2 m2 (hr d pd) (w1.step g2 p2) (Gd.trans w1.pot g1 g2) (by omega) a2⟩
theorem ed_callK3 {pre : Rh → List D → Prop} {post : List D → D → Prop} {EE : XK} {sp : Sp} {x y z r : D} (h : EDA ρ K tA δ [z, y, x]) (hsp : ∀ vs H Q, spJ K 3 pre 0 post vs H Q EE → sp vs H Q EE) (hp : pre ρ [x, y, z]) (hr : ∀ d, post [x, y, z] d → d = r) :
    ED ρ K (fun σ H Q => tA σ H fun zs H1 => sp (gK3 [] zs) H1 Q EE) δ r := .mk fun G0 H0 G H σ m Q w hm q =>
  (h).run G0 H0 G H σ m _ w hm fun ds vs G1 H1 m1 px w1 g1 l1 ax => by
    subst px
    cases ax with
    | cons h1 ax =>
    cases ax with
    | cons h2 ax =>
    cases ax with
    | cons h3 ax =>
    cases ax
    exact hsp _ _ _ ⟨ρ, G1, [x, y, z], m1, .cons h3 (.cons h2 (.cons h1 .nil)), rfl, w1.gd.sub, w1.pot, fun a e => w1.gnone e, by omega, hp, fun d v G2 H2 m2 pd g2 p2 l2 a2 => q d v G2 H2 m2 (hr d pd) (w1.step g2 p2) (Gd.trans w1.pot g1 g2) (by omega) a2⟩
/-- found.extend(what is drawn) -/
theorem sj_extP {ds : List D} {PE : List D → Prop} (hi : δ[i]? = some (some (.own (.lst ds)))) (h : EJ ρ K te δ k1 (fun d => ∃ es, d = .lst es ∧ PE es)) (hl : ∀ es, PE es → ds.length + es.length ≤ 1000000) (hn : ∀ es, PE es → SJ ρ K E u (δ.set i (some (.own (.lst (ds ++ es))))) k PO) :
    SJ ρ K E (tSeq (tDrop (tBM K "list" rExtend (tVar i) (tCons te tNil))) u) δ (k1 + k) PO := .mk fun G0 H0 G H σ m D w hm q => by
  obtain ⟨v, e1, p, o, rfl, hp, ha, hg, h0⟩ := w.sl i _ hi
  cases ha with
  | @lst xs _ hxs =>
    refine ⟨_, e1, .inl ⟨rfl, _, .inl (.inl hp)⟩, ?_⟩
    refine h.run G0 H0 G H σ m _ w (by omega) fun d v G' H' m' pd w' g l x => ?_
    obtain ⟨es, rfl, pe⟩ := pd
    cases x with
    | @lst b zs _ hb hzs =>
      obtain ⟨v2, e2, p2, o2, r2, hp2, ha2, hg2, h02⟩ := w'.sl i _ hi
      rw [e1] at e2
      cases e2
      cases r2
      cases ha2 with
      | @lst xs2 _ hxs2 =>
        refine ⟨p, b, xs2, zs, rfl, rfl, hp2, w'.gd.sub _ _ hb, by rw [hxs2.len, hzs.len]; exact Nat.le_trans (hl es pe) (by decide), ?_⟩
        exact (hn es pe).run G0 H0 G' _ σ m' D (w'.chg hi e1 (.lst (hxs2.app hzs))) (by omega) fun o po => (q o po).le (by omega)
end
end DN

/-! ground: the law's call where tables of code objects are known; defs whose own code object is told -/
namespace DN
open PySem PySem.Spec PyProof.Rows L2 LamX
abbrev tab0 : Obj := { cls := .none, data := .fields #[] }
section
variable {P : Program} {w : World} {K : PySem.W.Frag} {mg mb : Str → Option Value} {k : Nat} {fa a : Addr} {fd : FuncData} {x : Str} {sp : Sp} {s₁ : Shared} {vs : List Value} {ns : List Int} {cs : List (Addr × Addr)}
structure Tabled (mg : Str → Option Value) (h : Heap) (cs : List (Addr × Addr)) : Prop where
  emp : ∀ p ∈ cs, h.get? p.2 = some tab0
  code : ∀ p ∈ cs, PySem.W.CodeHd h p.1 p.2
  main : ∃ (bm : Addr) (ob : Obj), mg "__builtins__" = some (.ref bm) ∧ bm ≠ builtinsNs ∧ h.get? bm = some ob ∧ ob.cls = .type "module" ∧ ob.dict = some builtinsNs ∧ ob.data = .plain
theorem law_fromT (H : Hp) (F : ∀ base : Heap, K.In base → base.Ns mainGlobals mg → (∀ p ∈ cs, TabB base mg p.1 p.2) → FnG P w K mg base CX0 k fa fd [x] sp) (bind : ∀ (s : Shared) (u : Value), BindsTo s fd ⟨[u], []⟩ [(x, u)]) (room : Room k callerA)
    (inK : K.In s₁.heap) (nsG : s₁.heap.Ns mainGlobals mg) (nsB : s₁.heap.Ns builtinsNs mb) (bb : ∀ x : Str, x ≠ "__name__" → mb x = bootBuiltins x) (lim : s₁.heap.NoLimit) (gens : s₁.gens = #[]) (T : Tabled mg s₁.heap cs)
    (only : ∀ b, H b = none ∨ (∃ o xs, H b = some (.frz o (.lst xs))) ∨ (b ∈ cs.map (·.2) ∧ H b = some (.tbl #[]))) (hok : HOk P w H s₁.heap) (dicts : ∀ b o es ep, s₁.heap.get? b = some o → o.data = .dict es ep → H b = none) (kinds : ∀ b o t, s₁.heap.get? b = some o → o.cls = .type t → t = "code" ∨ t = "module" → H b = none)
    (offK : ∀ b o, K.lookup b = some o → H b = none) (hs : sp [.ref a] H (fun v _ => v = .bl true) (fun _ _ _ => False)) : codeAny (model P w) callerA (.call (.ref fa) ⟨[.ref a], []⟩) (Told s₁) s₁ := by
  have keepNs : ∀ {b : Addr} {m : Str → Option Value}, s₁.heap.Ns b m → (hidT s₁.heap H).Ns b m := by
    rintro b m ⟨o, es, ep, e, d, r⟩
    exact ⟨o, es, ep, hidT_get e (dicts b o es ep e d), d, r⟩
  have inB : K.In (hidT s₁.heap H) := fun b o e => hidT_get (inK b o e) (offK b o e)
  have mod : Mod K mg (hidT s₁.heap H) := by
    obtain ⟨mc, c1, c2⟩ := lim
    exact ⟨inB, keepNs nsG, ⟨mb, keepNs nsB, bb⟩, ⟨mc, keepNs c1, c2⟩⟩
  have e0 : Env0 P w K mg (hidT s₁.heap H) callerA [] s₁ H :=
    { frames := rfl, mod := mod, bs := fun b o e => of_hidT e, bsz := Nat.le_of_eq (hidT_size _ _), funs := trivial, frf := fun b hb => (List.not_mem_nil hb).elim, hok := hok, bare := .of_eq gens }
  have notG : ∀ (b : Addr) (ob : Obj), s₁.heap.get? b = some ob → (∀ es ep, ob.data ≠ .dict es ep) → b ≠ mainGlobals := fun b ob e nd z => by
    obtain ⟨o, es, ep, eo, d, _⟩ := nsG
    subst z
    rw [e] at eo
    cases eo
    exact nd es ep d
  have tb : ∀ p ∈ cs, TabB (hidT s₁.heap H) mg p.1 p.2 := fun p hp => by
    have tp := T.emp p hp
    refine { code := ?_, bm := ?_, gP := fun z => notG p.2 _ tp (fun es ep d => nomatch d) z.symm }
    · obtain ⟨o, us, x1, x2, x3, x4, x5, x6, x7, y1, y2, rest⟩ := T.code p hp
      exact ⟨o, us, x1, x2, x3, x4, x5, x6, x7, hidT_get y1 (kinds _ o _ y1 y2 (.inl rfl)), y2, rest⟩
    · obtain ⟨bm, ob, m1, m2, m3, m4, m5, m6⟩ := T.main
      refine ⟨bm, ob, m1, m2, notG bm ob m3 (fun es ep d => by rw [m6] at d; cases d), fun z => ?_, hidT_get m3 (kinds _ ob _ m3 m4 (.inr rfl)), m4, m5, m6⟩
      rw [z, tp] at m3
      cases m3
      cases m4
  have run := (F _ inB (keepNs nsG) tb).go callerA [] s₁ H ⟨[.ref a], []⟩ [.ref a] [.ref a] _ _ rfl room e0
    (bind s₁ (.ref a)) (.cons rfl .nil) hs
  refine codeAny_mono run fun r s' z => ?_
  match r, z with
  | .error e, z => exact absurd z (fun q => q)
  | .ok .next, z => exact absurd z (fun q => q)
  | .ok .brk, z => exact absurd z (fun q => q)
  | .ok .cont, z => exact absurd z (fun q => q)
  | .ok (.ret u), ⟨v, H', os, bare, un, ok', rel, q⟩ =>
    have ev : v = .bl true := q
    subst ev
    have eu : u = Value.bool true := rel
    subst eu
    have key : ∀ b o, s₁.heap.get? b = some o → s'.heap.get? b = some o ∨ (b ∈ cs.map (·.2) ∧ o = tab0 ∧ ∃ more, s'.heap.get? b = some { cls := .none, data := .fields more }) := fun b o e => by
      rcases only b with n | ⟨ob, xs, n⟩ | ⟨hb, n⟩
      · exact .inl (un.keep b o e n List.not_mem_nil List.not_mem_nil)
      · obtain ⟨z1, _⟩ := hok b _ n
        obtain ⟨z2, _⟩ := ok' b _ (un.frzs b ob _ n)
        rw [e] at z1
        rw [z1]
        exact .inl z2
      · obtain ⟨more, y⟩ := un.tbls b #[] n
        obtain ⟨p, hp, rfl⟩ := List.mem_map.mp hb
        have := T.emp p hp
        rw [e] at this
        exact .inr ⟨hb, Option.some.inj this, _, ok' _ _ y⟩
    refine ⟨rfl, ⟨fun b o e => ?_, fun b o e => ?_⟩, os, bare⟩
    · rcases key b o e with y | ⟨hb, rfl, more, y⟩
      · exact .inl y
      · obtain ⟨p, hp, rfl⟩ := List.mem_map.mp hb
        exact .inr (.inl ⟨((T.code p hp).tab (T.emp p hp)).isCodeTable, rfl, #[], more, rfl, by simpa using y⟩)
    · rcases key b o e with y | ⟨_, _, more, y⟩
      · exact ⟨_, y⟩
      · exact ⟨_, y⟩
theorem law_goT (F : ∀ base : Heap, K.In base → base.Ns mainGlobals mg → (∀ p ∈ cs, TabB base mg p.1 p.2) → FnG P w K mg base CX0 k fa fd [x] sp) (bind : ∀ (s : Shared) (u : Value), BindsTo s fd ⟨[u], []⟩ [(x, u)]) (room : Room k callerA)
    (inK : K.In s₁.heap) (nsG : s₁.heap.Ns mainGlobals mg) (nsB : s₁.heap.Ns builtinsNs mb) (bb : ∀ x : Str, x ≠ "__name__" → mb x = bootBuiltins x) (lim : s₁.heap.NoLimit) (gens : s₁.gens = #[]) (T : Tabled mg s₁.heap cs) (nK : ∀ p ∈ cs, K.lookup p.2 = none)
    (ha : s₁.heap.get? a = some { cls := .type "list", data := .seq vs.toArray }) (hi : IntsAre vs ns) (hl : ns.length ≤ sizeLine)
    (hsp : ∀ H : Hp, (∀ p ∈ cs, H p.2 = some (.tbl #[])) → (∀ b ps, H b = some (.tbl ps) → b ∈ cs.map (·.2)) → SqL K H a (ns.map V.int) → sp [.ref a] H (fun v _ => v = .bl true) fun _ _ _ => False) : codeAny (model P w) callerA (.call (.ref fa) ⟨[.ref a], []⟩) (Told s₁) s₁ := by
  have rv := vals_ints hi
  have ln : vs.length = ns.length := hi.length
  let la : Obj := { cls := .type "list", data := .seq vs.toArray }
  have emp : ∀ b, b ∈ cs.map (·.2) → s₁.heap.get? b = some tab0 := fun b hb => by
    obtain ⟨p, hp, rfl⟩ := List.mem_map.mp hb
    exact T.emp p hp
  have aT : a ∉ cs.map (·.2) := fun z => by
    have := emp a z
    rw [ha] at this
    cases this
  -- the script is written at the top, or it is known from its list
  obtain ⟨kn, hkn⟩ : ∃ kn : Bool, kn = true ↔ ∃ o, K.lookup a = some o := ⟨(K.lookup a).isSome, Option.isSome_iff_exists⟩
  let H : Hp := fun b => if b ∈ cs.map (·.2) then some (.tbl #[]) else if b = a ∧ kn = false then some (.frz la (.lst (ns.map V.int))) else none
  have hH : ∀ b, (b ∈ cs.map (·.2) ∧ H b = some (.tbl #[])) ∨ (b ∉ cs.map (·.2) ∧ b = a ∧ kn = false ∧ H b = some (.frz la (.lst (ns.map V.int)))) ∨ (b ∉ cs.map (·.2) ∧ ¬ (b = a ∧ kn = false) ∧ H b = none) := fun b => by
    by_cases h1 : b ∈ cs.map (·.2)
    · exact .inl ⟨h1, if_pos h1⟩
    · by_cases h2 : b = a ∧ kn = false
      · exact .inr (.inl ⟨h1, h2.1, h2.2, (if_neg h1).trans (if_pos h2)⟩)
      · exact .inr (.inr ⟨h1, h2, (if_neg h1).trans (if_neg h2)⟩)
  have none_of : ∀ b o, s₁.heap.get? b = some o → o ≠ tab0 → o ≠ la → H b = none := fun b o e n1 n2 => by
    rcases hH b with ⟨h, _⟩ | ⟨_, rfl, _, _⟩ | ⟨_, _, h⟩
    · have := emp b h
      rw [e] at this
      exact absurd (Option.some.inj this) n1
    · rw [ha] at e
      exact absurd (Option.some.inj e).symm n2
    · exact h
  refine law_fromT H F bind room inK nsG nsB bb lim gens T (fun b => ?_) (fun b u z => ?_) (fun b o es ep e d => ?_) (fun b o t e h1 h2 => ?_) (fun b o e => ?_) (hsp H (fun p hp => ?_) (fun b ps e => ?_) ?_)
  · rcases hH b with h | ⟨_, _, _, h⟩ | ⟨_, _, h⟩
    · exact .inr (.inr h)
    · exact .inr (.inl ⟨_, _, h⟩)
    · exact .inl h
  · rcases hH b with ⟨h, e⟩ | ⟨_, rfl, _, e⟩ | ⟨_, _, e⟩
    · rw [e] at z
      cases z
      exact emp b h
    · rw [e] at z
      cases z
      exact ⟨ha, by rw [List.length_map]; exact hl, vs, _, rv, ha⟩
    · rw [e] at z; cases z
  · exact none_of b o e (fun z => by subst z; cases d) (fun z => by subst z; cases d)
  · refine none_of b o e (fun z => by subst z; cases h1) (fun z => ?_)
    subst z
    cases h1
    rcases h2 with h2 | h2 <;> exact absurd h2 (by decide)
  · rcases hH b with ⟨h, _⟩ | ⟨_, rfl, kf, _⟩ | ⟨_, _, h⟩
    · obtain ⟨p, hp, rfl⟩ := List.mem_map.mp h
      rw [nK p hp] at e; cases e
    · have := hkn.mpr ⟨o, e⟩
      rw [kf] at this; cases this
    · exact h
  · rcases hH p.2 with ⟨_, h⟩ | ⟨h, _⟩ | ⟨h, _⟩
    · exact h
    · exact absurd (List.mem_map.mpr ⟨p, hp, rfl⟩) h
    · exact absurd (List.mem_map.mpr ⟨p, hp, rfl⟩) h
  · rcases hH b with ⟨h, _⟩ | ⟨_, _, _, h⟩ | ⟨_, _, h⟩
    · exact h
    · rw [h] at e; cases e
    · rw [h] at e; cases e
  · cases hk : kn with
    | true =>
      obtain ⟨o, ho⟩ := hkn.mp hk
      have e := inK a o ho
      rw [ha] at e
      have e2 := Option.some.inj e
      subst e2
      exact .inr ⟨_, vs.toArray, _, ho, rfl, rfl, rfl, by rw [List.size_toArray, ln]; exact hl, by simpa using rv⟩
    | false =>
      rcases hH a with ⟨h, _⟩ | ⟨_, _, _, h⟩ | ⟨_, h, _⟩
      · exact absurd h aT
      · exact .inl (.inr ⟨_, h⟩)
      · exact absurd ⟨rfl, hk⟩ h
end
end DN

/-! ground: lambdas handed to a def; what gives or raises -/
namespace DN
open PySem PySem.Spec PyProof.Rows L2
/-! ### the end of a law's row, where tables are known -/
structure TabAt (K : PySem.W.Frag) (mg : Str → Option Value) (q : Program) (x : Str) (c P : Addr) : Prop where
  ex : ∃ (f : Addr) (o oc : Obj) (fd : FuncData) (us : Array Value), mg x = some (.ref f) ∧ K.lookup f = some o ∧ o.data = .func fd ∧ fd.code = .ref c ∧ K.lookup c = some oc ∧ oc.data = .fields us ∧ us[11]? = some (.ref P)
  own : ((recsOf q).any fun e => e.name == x) = true
  off : K.lookup P = none
theorem walkGT {l : PySem.W.OpenLaw} {n k : Nat} {q : Program} {loose : List Str} {XP : (Str → Option Value) → Heap → Prop} {YP : World → Heap → Prop} {d : DefRec} {KK : Params → PySem.W.Frag} {x : Str}
    (hn : l.most = some n) (hn2 : n ≤ sizeLine) (hdf : d.params.defaults = []) (hr : Room k callerA) (hY : ∀ (w : World) (h : Heap), YP w h → (KK w.params).In h)
    (F : ∀ (w : World) (mg : Str → Option Value) (fa : Addr) (h : Heap), (KK w.params).In h → h.Ns mainGlobals mg → mg d.name = some (.ref fa) →
      ∃ (cs : List (Addr × Addr)) (sp : Sp) (fd : FuncData), (∀ p ∈ cs, ∃ y, TabAt (KK w.params) mg q y p.1 p.2) ∧ (∀ (s : Shared) (u : Value), BindsTo s fd ⟨[u], []⟩ [(x, u)]) ∧
        (∀ base : Heap, (KK w.params).In base → base.Ns mainGlobals mg → (∀ p ∈ cs, LamX.TabB base mg p.1 p.2) → FnG l.prog w (KK w.params) mg base CX0 k fa fd [x] sp) ∧
        ∀ (H : Hp) (a : Addr) (ns : List Int), ns.length ≤ n → (∀ p ∈ cs, H p.2 = some (.tbl #[])) → (∀ b ps, H b = some (.tbl ps) → b ∈ cs.map (·.2)) → SqL (KK w.params) H a (ns.map V.int) → sp [.ref a] H (fun v _ => v = .bl true) fun _ _ _ => False) :
    PySem.W.WalkO q loose XP YP l.row.toRowW d [] (fun f vs => PySem.call f vs) := by
  refine Att.attach_call hn hdf ?_
  intro w s₀ s₁ mg mb fa o pm cd doc a vs ns G Y ho hd hcd hmg hobj hints hlen hg
  have KX := hY w _ Y
  obtain ⟨cs, sp, fd, hT, hb, hF, hsp⟩ := F w mg fa _ KX G.T.g hmg
  have at_ : ∀ p ∈ cs, s₁.heap.get? p.2 = some tab0 ∧ PySem.W.CodeHd s₁.heap p.1 p.2 := fun p hp => by
    obtain ⟨y, t⟩ := hT p hp
    obtain ⟨f, o1, oc, fd1, us, e1, e2, e3, e4, e5, e6, e7⟩ := t.ex
    obtain ⟨r, hr1, hr2⟩ := List.any_eq_true.mp t.own
    obtain ⟨f', o', fd', c', P', g1, g2, g3, g4, g5, g6⟩ := G.T.tab r hr1
    have hn1 : r.name = y := beq_iff_eq.mp hr2
    rw [hn1, e1] at g1
    cases g1
    rw [KX _ _ e2] at g2
    cases g2
    rw [e3] at g3
    cases g3
    rw [e4] at g4
    cases g4
    have hc := PySem.W.CodeHd.of g5 g6
    obtain ⟨⟨oc', us', x1, _, x3, x4⟩, hP⟩ := g6
    rw [KX _ _ e5] at x1
    cases x1
    rw [e6] at x3
    cases x3
    rw [e7] at x4
    cases x4
    exact ⟨hP, hc⟩
  exact law_goT hF hb hr KX G.T.g G.T.b G.T.builtins G.T.nolimit hg ⟨fun p hp => (at_ p hp).1, fun p hp => (at_ p hp).2, G.T.bmain⟩ (fun p hp => (hT p hp).elim fun _ t => t.off) hobj hints (Nat.le_trans hlen hn2) (fun H h1 h2 hS => hsp H a ns hlen h1 h2 hS)
/-! ### the lambda's own body -/
theorem lam_takes {X : Cx} {A : Around} {outer : List Env} {s : Shared} {H : Hp} {E : XK} {scope : Scope} {f c' : Addr} : Takes (LamX.lamCx X A outer s H E scope f c') (fun cls d _ H => E cls d H) := takes_of rfl rfl rfl rfl
theorem passL {X : Cx} {A : Around} {outer : List Env} {s : Shared} {H : Hp} {E : XK} {scope : Scope} {f c' : Addr} : Passes (L2.CX X.prog X.w) (LamX.lamCx X A outer s H E scope f c') E := passes_call lam_takes fun _ _ _ _ h => h
variable [Tb]
/-! ### what gives or raises -/
structure EE (ρ : Rh) (K : PySem.W.Frag) (t : XK → TE) (δ : Dl) (k : Nat) (P : D → Prop) (PX : Addr → D → Prop) : Prop where
  run : ∀ (G0 H0 G H : Hp) (σ : L2.St) (m : Nat) (E : XK) (Q : VK), Wf ρ K G0 H0 G H σ δ m → m + k ≤ Mx → (∀ d v G' H' m', P d → Gd ρ G H G' H' → PotS ρ m' H' → m' ≤ m + k → At K G' v d → Q v H') →
    (∀ C d p v G' H' m', PX C d → Gd ρ G H G' H' → PotS ρ m' H' → m' ≤ m + k → G' p = some (.xd [("value", v)]) → At K G' v d → E (.ref C) (some p) H') → t E σ H Q
/-- a def's promise that either gives or raises -/
def spEJ (K : PySem.W.Frag) (n : Nat) (pre : Rh → List D → Prop) (c : Nat) (post : List D → D → Prop) (postX : List D → Addr → D → Prop) : Sp := fun vs H Q E => ∃ (ρ : Rh) (G : Hp) (ds : List D) (m : Nat), AtL K G vs ds ∧ ds.length = n ∧ Same G H ∧ PotS ρ m H ∧
  (∀ a, Mv ρ a → G a = none) ∧ m + c ≤ Mx ∧ pre ρ ds ∧ (∀ d v G' H' m', post ds d → Gd ρ G H G' H' → PotS ρ m' H' → m' ≤ m + c → At K G' v d → Q v H') ∧
  ∀ C d p v G' H' m', postX ds C d → Gd ρ G H G' H' → PotS ρ m' H' → m' ≤ m + c → G' p = some (.xd [("value", v)]) → At K G' v d → E (.ref C) (some p) H'
theorem spEJ_len {K : PySem.W.Frag} {n c : Nat} {pre : Rh → List D → Prop} {post : List D → D → Prop} {postX : List D → Addr → D → Prop} {vs : List V} {H : Hp} {Q : VK} {E : XK} (h : spEJ K n pre c post postX vs H Q E) : vs.length = n := by
  obtain ⟨ρ, G, ds, m, h1, h2, _⟩ := h
  rw [h1.len]; exact h2
theorem body_wf {K : PySem.W.Frag} {ρ : Rh} {N : List Str} {vs : List V} {ds : List D} {G H : Hp} {m : Nat} (ha : AtL K G vs ds) (hs : Same G H) (hp : PotS ρ m H) (hg : ∀ a, Mv ρ a → G a = none) : Wf ρ K G H G H (L2.start N vs) (initD N.length ds) m := by
  have hvl := ha.len
  have dl : ∀ {i : Nat} {s : Sl}, (initD N.length ds)[i]? = some (some s) → ∃ d, s = .val d ∧ ds[i]? = some d := by
    intro i s e
    unfold initD at e
    by_cases hi : i < ds.length
    · rw [List.getElem?_append_left (by rw [List.length_map]; exact hi), List.getElem?_map, List.getElem?_eq_getElem hi] at e
      cases e
      exact ⟨ds[i], rfl, List.getElem?_eq_getElem hi⟩
    · rw [List.getElem?_append_right (by rw [List.length_map]; omega)] at e
      have e2 := (List.getElem?_replicate).symm.trans e
      split at e2 <;> cases e2
  refine ⟨?_, Gd.refl hs, hp, fun a e => ⟨hp.ne e, hg a e⟩, fun i s e => ?_, fun i j d e n h1 h2 => ?_⟩
  · unfold L2.start initD
    rw [List.length_append, List.length_append, List.length_map, List.length_map, List.length_replicate, List.length_replicate, hvl]
  · obtain ⟨d, rfl, hd⟩ := dl e
    obtain ⟨v, hv, hav⟩ := ha.get hd
    exact ⟨v, start_get hv, hav⟩
  · obtain ⟨x, hx, _⟩ := dl h1
    cases hx
theorem body_ofE {K : PySem.W.Frag} {ts : TS} {N : List Str} {n c : Nat} {pre : Rh → List D → Prop} {post : List D → D → Prop} {postX : List D → Addr → D → Prop} {vs : List V} {H : Hp} {Q : VK} {EE : XK}
    (hb : ∀ ρ ds, ds.length = n → pre ρ ds → ∃ k, k ≤ c ∧ SJ ρ K EE ts (initD N.length ds) k (fun o => (∃ d, o = .rt d ∧ post ds d) ∨ (∃ C d, o = .ex C d ∧ postX ds C d) ∨ ∃ δ, o = .nx δ ∧ post ds .non)) (h : spEJ K n pre c post postX vs H Q EE) :
    ts { nx := fun _ H' => Q .non H', rt := Q } (L2.start N vs) H := by
  obtain ⟨ρ, G, ds, m, ha, hl, hs, hp, hg, hm, hpre, q, qx⟩ := h
  obtain ⟨k, hk, hb⟩ := hb ρ ds hl hpre
  refine hb.run G H G H (L2.start N vs) m _ (body_wf ha hs hp hg) (by omega) fun o po => ?_
  rcases po with ⟨d, rfl, pd⟩ | ⟨C, d, rfl, pd⟩ | ⟨δ, rfl, pd⟩
  · exact fun v G' H' m' g pp l a => q d v G' H' m' pd g pp (by omega) a
  · exact fun p v G' H' m' g pp l x a => qx C d p v G' H' m' pd g pp (by omega) x a
  · exact fun G' H' σ' m' w' l => q .non .non G' H' m' pd w'.gd w'.pot (by omega) .non
section
variable {ρ : Rh} {K : PySem.W.Frag} {E : XK} {δ : Dl} {te : TE} {tA : TA} {u : TS} {k k1 k2 c n : Nat} {P : D → Prop} {PX : Addr → D → Prop} {PA : List D → Prop} {PO : Out → Prop}
theorem ee_call {pre : Rh → List D → Prop} {post : List D → D → Prop} {postX : List D → Addr → D → Prop} {sp : Sp} (h : EA ρ K tA δ k PA) (hsp : ∀ vs H Q E, spEJ K n pre c post postX vs H Q E → sp vs H Q E) (h1 : ∀ ds, PA ds → ds.length = n ∧ pre ρ ds)
    (h2 : ∀ ds d, PA ds → post ds d → P d) (h3 : ∀ ds C d, PA ds → postX ds C d → PX C d) : EE ρ K (fun E => tCall sp [] E tA) δ (k + c) P PX := .mk fun G0 H0 G H σ m E Q w hm q qx =>
  (h).run G0 H0 G H σ m _ w (by omega) fun ds vs G1 H1 m1 px w1 g1 l1 ax => by
    show sp (vs ++ []) H1 Q E
    rw [List.append_nil]
    exact hsp _ _ _ _ ⟨ρ, G1, ds, m1, ax, (h1 ds px).1, w1.gd.sub, w1.pot, fun a e => w1.gnone e, by omega, (h1 ds px).2, fun d v G2 H2 m2 pd g2 p2 l2 a2 => q d v G2 H2 m2 (h2 ds d px pd) (Gd.trans w1.pot g1 g2) p2 (by omega) a2,
      fun C d p v G2 H2 m2 pd g2 p2 l2 hx a2 => qx C d p v G2 H2 m2 (h3 ds C d px pd) (Gd.trans w1.pot g1 g2) p2 (by omega) hx a2⟩
/-- f(e, ..), where f may raise, in a body that lets it out -/
theorem sj_dropE {t : XK → TE} (h : EE ρ K t δ k1 P PX) (hn : SJ ρ K E u δ k2 PO) (hx : ∀ C d, PX C d → PO (.ex C d)) : SJ ρ K E (tSeq (tDrop (t E)) u) δ (k1 + k2) PO := .mk fun G0 H0 G H σ m D w hm q =>
  h.run G0 H0 G H σ m E _ w (by omega) (fun d v G' H' m' p g pp l x => hn.run G0 H0 G' H' _ m' D (w.step g pp) (by omega) fun o po => (q o po).le (by omega))
    fun C d p v G' H' m' px g pp l hxd av => (q (.ex C d) (hx C d px)) p v G' H' m' (Gd.trans w.pot w.gd g) pp (by omega) hxd av
theorem sj_setE {i : Nat} {t : XK → TE} (h : EE ρ K t δ k1 P PX) (hn : ∀ d, P d → SJ ρ K E u (δ.set i (some (.val d))) k2 PO) (hx : ∀ C d, PX C d → PO (.ex C d)) : SJ ρ K E (tSeq (tAsg (t E) (gName i)) u) δ (k1 + k2) PO := .mk fun G0 H0 G H σ m D w hm q =>
  h.run G0 H0 G H σ m E _ w (by omega) (fun d v G' H' m' p g pp l x => (hn d p).run G0 H0 G' H' _ m' D ((w.step g pp).set x) (by omega) fun o po => (q o po).le (by omega))
    fun C d p v G' H' m' px g pp l hxd av => (q (.ex C d) (hx C d px)) p v G' H' m' (Gd.trans w.pot w.gd g) pp (by omega) hxd av
theorem sj_retE {t : XK → TE} (h : EE ρ K t δ k P PX) (hp : ∀ d, P d → PO (.rt d)) (hx : ∀ C d, PX C d → PO (.ex C d)) : SJ ρ K E (tRet (t E)) δ k PO := .mk fun G0 H0 G H σ m D w hm q =>
  h.run G0 H0 G H σ m E _ w hm (fun d v G' H' m' p g pp l x => q (.rt d) (hp d p) v G' H' m' (Gd.trans w.pot w.gd g) pp l x)
    fun C d p v G' H' m' px g pp l hxd av => (q (.ex C d) (hx C d px)) p v G' H' m' (Gd.trans w.pot w.gd g) pp l hxd av
theorem EE.mono {t : XK → TE} {k' : Nat} {P' : D → Prop} {PX' : Addr → D → Prop} (h : EE ρ K t δ k P PX) (hk : k ≤ k') (hp : ∀ d, P d → P' d) (hx : ∀ C d, PX C d → PX' C d) : EE ρ K t δ k' P' PX' := .mk fun G0 H0 G H σ m E Q w hm q qx =>
  h.run G0 H0 G H σ m E Q w (by omega) (fun d v G' H' m' p g pp l x => q d v G' H' m' (hp d p) g pp (by omega) x) fun C d p v G' H' m' px g pp l hxd av => qx C d p v G' H' m' (hx C d px) g pp (by omega) hxd av
/-- what a def makes of a lambda that it calls and whose error it takes -/
structure TJ (ρ : Rh) (K : PySem.W.Frag) (TT : (XK → Hp → VK → Prop) → Hp → VK → Prop) (PP : Addr → D → Prop) (R : Option (Addr × D) → D → Prop) : Prop where
  run : ∀ (G H : Hp) (m kk : Nat) (tl : XK → Hp → VK → Prop) (Q : VK) (PN : D → Prop) (PX : Addr → D → Prop), (∀ C d, PX C d → PP C d) → Same G H → PotS ρ m H → (∀ a, Mv ρ a → G a = none) → m + kk ≤ Mx →
    (∀ (E : XK) (Q' : VK), (∀ d v G' H' m', PN d → Gd ρ G H G' H' → PotS ρ m' H' → m' ≤ m + kk → At K G' v d → Q' v H') → (∀ C d p v G' H' m', PX C d → Gd ρ G H G' H' → PotS ρ m' H' → m' ≤ m + kk → G' p = some (.xd [("value", v)]) → At K G' v d → E (.ref C) (some p) H') → tl E H Q') →
    (∀ r v G' H' m', ((∃ d, PN d ∧ R none r) ∨ ∃ C d, PX C d ∧ R (some (C, d)) r) → Gd ρ G H G' H' → PotS ρ m' H' → m' ≤ m + kk → At K G' v r → Q v H') → TT tl H Q
end
/-! ### a table's change -/
def noTab (G : Hp) : Hp := fun b => match G b with | some (.tbl _) => none | o => o
theorem noTab_nt {G : Hp} {b : Addr} {o : HO} (h : G b = some o) (ho : Nt o) : noTab G b = some o := by
  unfold noTab
  rw [h]
  cases o <;> first | rfl | exact absurd rfl (ho _)
theorem noTab_of {G : Hp} {b : Addr} {o : HO} (h : noTab G b = some o) : G b = some o ∧ Nt o := by
  unfold noTab at h
  split at h
  · cases h
  · rename_i x hx
    exact ⟨h, fun ps z => hx ps (by rw [h, z])⟩
theorem noTab_none {G : Hp} {b : Addr} (h : G b = none) : noTab G b = none := by
  unfold noTab; rw [h]
theorem rd_noTab {G : Hp} {a : Addr} {u : HO} (h : Rd G a u) (hu : Nt u) : Rd (noTab G) a u := by
  rcases h with h | ⟨o, h⟩
  · exact .inl (noTab_nt h hu)
  · exact .inr ⟨o, noTab_nt h (by (intro _ z; cases z))⟩
theorem At.noTab {K : PySem.W.Frag} {G : Hp} {v : V} {d : D} (h : At K G v d) : At K (noTab G) v d :=
  At.rec (motive_1 := fun v d _ => At K (DN.noTab G) v d) (motive_2 := fun vs ds _ => AtL K (DN.noTab G) vs ds) (motive_3 := fun vs ds _ => AtK K (DN.noTab G) vs ds) (motive_4 := fun vs ds _ => AtF K (DN.noTab G) vs ds)
    .non .bl .int .str (fun h _ ih => .tup (h.imp (fun h => rd_noTab h (by (intro _ z; cases z))) id) ih) (fun h _ ih => .lst (noTab_nt h (by (intro _ z; cases z))) ih) (fun h _ ih => .dct (noTab_nt h (by (intro _ z; cases z))) ih) (fun h _ ih => .ins (noTab_nt h (by (intro _ z; cases z))) ih) (fun h h2 _ ih => .exc (noTab_nt h (by unfold exo; (intro _ z; cases z))) (noTab_nt h2 (by unfold exd; (intro _ z; cases z))) ih) .opq
    (fun h => .scr (h.imp (fun h => rd_noTab h (by (intro _ z; cases z))) id)) (fun h _ ih => .cau (noTab_nt h (by (intro _ z; cases z))) ih)
    .nil (fun _ _ i1 i2 => .cons i1 i2) .nil (fun _ _ i1 i2 => .cons i1 i2) .nil (fun _ _ i1 i2 => .cons i1 i2) h
end DN

/-! ground: x(lambda: e) over data -/
namespace DN
open PySem PySem.Spec PyProof.Rows L2
/-- the same tables; what else may be a table is of no account -/
@[reducible] def offT (tb : Tb) : Tb := ⟨tb.T, false⟩
theorem ej_lam [tb : Tb] {ρ : Rh} {K : PySem.W.Frag} {δ : Dl} {t : XK → TE} {TT : (XK → Hp → VK → Prop) → Hp → VK → Prop} {PP : Addr → D → Prop} {R : Option (Addr × D) → D → Prop} {PN : D → Prop} {PX : Addr → D → Prop} {k : Nat} (hρ : ρ ≠ .none) (on : Tb.on = true)
    (he : @EE (offT tb) ρ K t δ k PN PX) (ht : @TJ (offT tb) ρ K TT PP R) (hP : ∀ C d, PX C d → PP C d) : EJ ρ K (tS (LamX.tLam Tb.T TT t)) δ k (fun r => (∃ d, PN d ∧ R none r) ∨ ∃ C d, PX C d ∧ R (some (C, d)) r) := .mk fun G0 H0 G H σ m Q w hm q => ⟨w.pot.tabs, fun H1 eN T1 => by
  have only := w.pot.only on
  have ntH : ∀ b o, Fx ρ b → H b = some o → Nt o := fun b o n e ps z => n (.inr ⟨hρ, only b ps (by rw [e, z])⟩)
  have k1 : ∀ b o, Fx ρ b → H b = some o → H1 b = some o := fun b o n e => eN b o e (ntH b o n e)
  have fxG : ∀ b o, G b = some o → Fx ρ b := fun b o e z => by
    have := w.gnone z
    rw [e] at this; cases this
  have gH1 : Same G H1 := fun b o e => k1 b o (fxG b o e) (w.gd.sub b o e)
  have p1 : @PotS (offT tb) ρ m H1 := @PotS.mk (offT tb) ρ m H1 T1 (fun z => nomatch z) fun a e => let ⟨x, y, z, h, B⟩ := w.pot.pot a e; ⟨x, y, z, eN a _ h (by unfold potO; (intro _ z; cases z)), B⟩
  have gd1 : @Gd (offT tb) ρ G0 H0 G H1 := @Gd.mk (offT tb) ρ G0 H0 G H1 (fun b o n e => k1 b o n (w.gd.keep b o n e)) w.gd.gg gH1 w.gd.new fun _ z => nomatch z
  have w1 : @Wf (offT tb) ρ K G0 H0 G H1 σ δ m := @Wf.mk (offT tb) ρ K G0 H0 G H1 σ δ m w.len gd1 p1 w.pot0 (fun i s e => by
    obtain ⟨v, h1, h2⟩ := w.sl i s e
    refine ⟨v, h1, ?_⟩
    cases s with
    | val d => exact h2
    | own d =>
      obtain ⟨p, o, rfl, hp, ha, hg, h0⟩ := h2
      exact ⟨p, o, rfl, k1 p o (fun z => (w.pot0 p z).1 h0) hp, ha, hg, h0⟩
    | lent d =>
      obtain ⟨p, o, rfl, hp, ha, hg, h0, nr⟩ := h2
      exact ⟨p, o, rfl, k1 p o nr hp, ha, hg, h0, nr⟩) w.ap
  refine @TJ.run (offT tb) ρ K TT PP R ht G H1 m k _ _ PN PX hP gH1 p1 (fun a e => w.gnone e) hm (fun E Q' h1 h2 => @EE.run (offT tb) ρ K t δ k PN PX he G0 H0 G H1 σ m E Q' w1 hm h1 h2) fun r v G' H' m' hr g2 p2 l2 av => ?_
  have keepF : ∀ b o, Fx ρ b → H b = some o → H' b = some o := fun b o n e => @Gd.keep (offT tb) ρ G H1 G' H' g2 b o n (k1 b o n e)
  have nts : ∀ b o, H b = some o → Nt o → ∃ o', H' b = some o' ∧ Nt o' := fun b o e ho => by
    by_cases z : Mv ρ b
    · have nT : b ∉ TbA := fun y => by
        obtain ⟨ps, y⟩ := tabs_ta w.pot.tabs y
        rw [e] at y
        exact ho ps (Option.some.inj y)
      rcases z with z | z
      · obtain ⟨_, _, _, y, _⟩ := @PotS.pot (offT tb) ρ m' H' p2 b z
        exact ⟨_, y, by unfold potO; (intro _ z; cases z)⟩
      · exact absurd z.2 nT
    · exact ⟨o, keepF b o z e, ho⟩
  have gF : Gd ρ G H (noTab G') (strip H H') := {
    keep := fun b o n e => strip_nt (keepF b o n e) (ntH b o n e)
    gg := fun b o e => noTab_nt (@Gd.gg (offT tb) ρ G H1 G' H' g2 b o e) (ntH b o (fxG b o e) (w.gd.sub b o e))
    sub := fun b o e => strip_nt (@Gd.sub (offT tb) ρ G H1 G' H' g2 b o (noTab_of e).1) (noTab_of e).2
    new := fun b e => by
      have e' : G' b ≠ none := fun z => e (noTab_none z)
      rcases @Gd.new (offT tb) ρ G H1 G' H' g2 b e' with y | y
      · exact .inl y
      · refine .inr ?_
        cases z : H b with
        | none => rfl
        | some o =>
          by_cases n : Mv ρ b
          · exact absurd y (@PotS.ne (offT tb) ρ m H1 b p1 n)
          · rw [k1 b o n z] at y; cases y
    ot := fun h => strip_only h nts }
  have pF : PotS ρ m' (strip H H') := {
    tabs := fun x hx => by
      obtain ⟨ps, h1, h2, h3⟩ := @PotS.tabs (offT tb) ρ m' H' p2 x hx
      obtain ⟨ps0, h0, _⟩ := w.pot.tabs x hx
      refine ⟨ps, by rw [strip_old (by rw [h0]; simp)]; exact h1, h2, fun pos cv hc => ?_⟩
      obtain ⟨c, e1, e2⟩ := h3 pos cv hc
      exact ⟨c, e1, strip_nt e2 LamX.codeO_ne⟩
    only := gF.ot w.pot.only
    pot := fun a e => let ⟨x, y, z, h, B⟩ := @PotS.pot (offT tb) ρ m' H' p2 a e; ⟨x, y, z, strip_nt h (by unfold potO; (intro _ z; cases z)), B⟩ }
  exact q r v (noTab G') (strip H H') m' hr (w.step gF pF) gF l2 av.noTab⟩
/-! ### the caught error -/
section
variable [Tb]
variable {ρ : Rh} {K : PySem.W.Frag} {E : XK} {δ : Dl} {te : TE} {d : D}
theorem cj_isED {a p C : Addr} {cls : Value} {c : V} {cv : Value} {b : Bool} (F : ExcC K C) (hc : ClsV c cv) (hcl : cls = .ref C) (hk : PySem.W.kitOne K (.ref C) cv = some b) : CJ K (rIsED K a cls (some p)) [.cau a p C d, .opq c] (.bl b) := .mk fun xs G H Q hx s q => by
  cases hx with
  | cons h r =>
    cases r with
    | cons h2 r =>
      cases r
      cases h2
      cases h with
      | cau hp hd => exact ⟨C, p, _, c, cv, b, rfl, hcl, rfl, s _ _ hp, F, hc, hk, q _ G H (Gd.refl s) (.bl _)⟩
/-- e.f of the error that is held, whatever its class -/
def tXfA (K : PySem.W.Frag) (a : Addr) (cls : Value) (d : Option Addr) (n : Str) (te : TE) : TE := fun σ H Q => ∃ C, XfC K C ∧ PySem.W.findIn K (.ref C) n = some none ∧ tXf a cls d C n te σ H Q
theorem pe_xfA {X : Cx} {a : Addr} {oe : Obj} {cls : Value} {d : Option Addr} {pn : List (Addr × Obj)} {e : Expr} {te : TE} {pos : Pos} {n : Str} (hz : Zc cls d oe) (hf : ∃ vs, oe.data = .fields vs) (he : PE (X.suite a ((a, oe) :: pn)) e te) (hb : attributeBase e n X.env (eval e X.env) = eval e X.env := by rfl) :
    PE (X.suite a ((a, oe) :: pn)) (.Attribute e n pos) (tXfA X.K a cls d n te) := ⟨fun pins s σ H Q I h => by
  obtain ⟨C, T, hno, h⟩ := h
  exact (pe_xf T hno hz hf he hb).run pins s σ H Q I h⟩
theorem ed_xfA {a p C : Addr} {cls : Value} (h : ED ρ K te δ (.cau a p C d)) (T : XfC K C) (hno : PySem.W.findIn K (.ref C) "value" = some none) (hcl : cls = .ref C) : ED ρ K (tXfA K a cls (some p) "value" te) δ d := .mk fun G0 H0 G H σ m Q w hm q =>
  ⟨C, T, hno, h.run G0 H0 G H σ m _ w hm fun e v G1 H1 m1 pd w1 g1 l1 x => by
    subst pd
    cases x with
    | @cau _ _ _ v _ hp hv => exact ⟨rfl, hcl, p, _, v, rfl, w1.gd.sub _ _ hp, by simp, q d v G1 H1 m1 rfl w1 g1 l1 hv⟩⟩
end
end DN

/-! ground: a text == any value -/
namespace DN
open PySem PySem.Spec PyProof.Rows L2
theorem str_no_dict (b : Str) (u : Tok) (l : Addr) (ob : Obj) : Meets (Builtin.«str.__eq__» ⟨[.str b u, .ref l], []⟩) (fun _ R s => (s.heap.get? l = some ob ∧ ∃ es ep, ob.data = .dict es ep) ∧ R (.ok (.ret .notImplemented)) s) :=
  .of_wp fun prog w A R s h => by
    obtain ⟨hp, g, d, tk, os⟩ := s
    obtain ⟨⟨hl, es, ep, hd⟩, h⟩ := h
    obtain ⟨oc, od, oda, osl⟩ := ob
    simp only at hd
    subst hd
    wp_walk using wpAny_loadPart' hl, wpAny_load hl
    exact ⟨_, rfl, h⟩
theorem dict_no_str (b : Str) (u : Tok) (l : Addr) : Meets (Builtin.«dict.__eq__» ⟨[.ref l, .str b u], []⟩) (fun _ R s => s.TypeIs (.ref l) "dict" ∧ R (.ok (.ret .notImplemented)) s) :=
  .of_wp fun prog w A R s h => by
    obtain ⟨⟨ob, hl, hc⟩, h⟩ := h
    obtain ⟨hp, g, d, tk, os⟩ := s
    obtain ⟨oc, od, oda, osl⟩ := ob
    simp only at hc
    subst hc
    have f1 := F.sub_str_dict
    wp_walk using wpAny_loadPart' hl, wpAny_load hl
    exact ⟨_, rfl, h⟩
section
variable {X : Cx}
def rEqSV (K : PySem.W.Frag) : R2 := fun x y H Q => rEqD K x y H Q ∨ ∃ z a kvs, x = .str z ∧ y = .ref a ∧ H a = some (.dK kvs) ∧ Q (.bl false) H
theorem op_eqSV (hu : X.A.units + 64 < cLine) : OpR X (compareOp .Eq) (rEqSV X.K) := by
  intro pins s σ H x y v u Q I rx ry h
  rcases h with h | ⟨z, a, kvs, rfl, rfl, ha, q⟩
  · exact op_eqD hu pins s σ H x y v u Q I rx ry h
  · obtain ⟨t, rfl⟩ := rx
    cases ry
    obtain ⟨_, _, vs, kv, o, es, ep, ho, ex, hd, _⟩ := I.hok a _ ha
    have ty : s.TypeIs (.ref a) "dict" := ⟨o, ho, ex.1⟩
    show wpAny _ _ (richCompare .Eq (.str z t) (.ref a)) _ _ _
    refine SeqAt.rc_eq_decline_or (k := false) (typeIs_str s z t) ty (by decide) F.sub_dict_str F.slot_str_eq F.slot_dict_eq_refl
      (fun _ hq => call_meets F.slot_str_eq (typeIs_str s z t) F.entry_str_eq (F.args_str_eq_2 _ _) (str_no_dict z t a o) ⟨⟨ho, es, ep, hd⟩, hq⟩)
      (fun _ hq => call_meets F.slot_dict_eq_refl ty F.entry_dict_eq (F.args_dict_eq_2 _ _) (dict_no_str z t a) ⟨ty, hq⟩)
      (fun _ hq => wpAny_of_eq (rfl : isSame (.str z t) (.ref a) = pure false) hq) (.inr (by omega)) ?_
    exact ⟨.bl false, H, I, rfl, q⟩
variable [Tb]
variable {K : PySem.W.Frag} {d : D}
/-- a text == a value of any kind -/
def strIs (z : Str) : D → Bool
  | .str x => decide (z = x)
  | _ => false
structure EqAny (d : D) : Prop where
  ok : (seqD d = true ∧ SeqAt.shaped (py d) = true) ∨ ∃ es, d = .dct es
theorem rj_eqSV {z : Str} (hz : PyData.strOk z = true) (h : EqAny d) : RJ K (rEqSV K) (.str z) d (.bl (strIs z d)) := .mk fun x y G H Q hx hy s q => by
  rcases h.ok with ⟨h1, h2⟩ | ⟨es, rfl⟩
  · have a1 := at_dp (hx.mono s) (d := .str z) rfl
    have a2 := at_dp (hy.mono s) h1
    refine .inl ⟨_, _, a1, a2, ?_, h2, ?_⟩
    · simp [py, SeqAt.shaped, PyData.canLay0, PyData.depth, hz]
    · have e : PyData.eqv (py (.str z)) (py d) = strIs z d := by
        cases d with
        | str x =>
          show (z == x) = decide (z = x)
          rw [Bool.eq_iff_iff]; simp
        | _ => first | rfl | simp [py, PyData.eqv, strIs]
      rw [e]
      exact q _ G H (Gd.refl s) (.bl _)
  · cases hx
    cases hy with
    | dct ha _ => exact .inr ⟨z, _, _, rfl, rfl, s _ _ ha, q _ G H (Gd.refl s) (.bl _)⟩
end
end DN

/-! ground: zip(x, y) where each of x and y is a list or a tuple -/
namespace ZX
open PySem PySem.Spec PyProof.Rows
inductive Kd where
  | l | t
def IsSeq (k : Kd) (h : Heap) (a : Addr) (xs : Array Value) : Prop := match k with
  | .l => h.IsList a xs
  | .t => h.IsTuple a xs
def IsCur (k : Kd) (h : Heap) (it a : Addr) (i : Nat) : Prop := match k with
  | .l => h.IsListIter it a i
  | .t => h.IsTupleIter it a i
def itCls : Kd → String
  | .l => "list_iterator"
  | .t => "tuple_iterator"
theorem IsSeq.ext {k : Kd} {h h' : Heap} {a c : Addr} {xs : Array Value} (x : IsSeq k h a xs) (e : Heap.ExtBut c h h') (n : a ≠ c) : IsSeq k h' a xs := match k, x with
  | .l, x => Heap.IsList.extBut x e n
  | .t, x => Heap.IsTuple.extBut x e n
theorem IsCur.ext {k : Kd} {h h' : Heap} {it a c : Addr} {i : Nat} (x : IsCur k h it a i) (e : Heap.ExtBut c h h') (n : it ≠ c) : IsCur k h' it a i := match k, x with
  | .l, x => Heap.IsListIter.extBut x e n
  | .t, x => Heap.IsTupleIter.extBut x e n
theorem IsCur.at {k : Kd} {h h' : Heap} {it a : Addr} {i : Nat} (x : IsCur k h it a i) (e : ∀ o, h.get? it = some o → h'.get? it = some o) : IsCur k h' it a i := match k, x with
  | .l, x => Heap.IsListIter.at x e
  | .t, x => Heap.IsTupleIter.at x e
theorem IsCur.obj {k : Kd} {h : Heap} {it a : Addr} {i : Nat} (x : IsCur k h it a i) : ∃ o, h.get? it = some o ∧ ∀ v, o.data ≠ .cell v := match k, x with
  | .l, ⟨o, e, _, d⟩ => ⟨o, e, fun v q => by rw [d] at q; cases q⟩
  | .t, ⟨o, e, _, d⟩ => ⟨o, e, fun v q => by rw [d] at q; cases q⟩
theorem IsCur.lt {k : Kd} {h : Heap} {it a : Addr} {i : Nat} (x : IsCur k h it a i) : it < h.objs.size := by
  obtain ⟨o, e, _⟩ := x.obj
  exact Heap.lt_size e
section
variable {prog : Program} {w : World} {A : Around} {E : Value → Shared → Prop} {s : Shared}
theorem next_item {k : Kd} {it l : Addr} {i : Nat} {items : Array Value} {x : Value} {Q : Value → Shared → Prop} (hit : IsCur k s.heap it l i) (hl : IsSeq k s.heap l items) (hx : items[i]? = some x)
    (hQ : ∀ h', IsCur k h' it l (i + 1) → Heap.SameBut it s.heap h' → Q x { s with heap := h' }) : wpAny (model prog w) A (Builtin.SmallTypes.nextOf (.ref it)) Q E s := match k, hit, hl, hQ with
  | .l, hit, hl, hQ => wpAny_nextOf_list_item hit hl hx hQ
  | .t, hit, hl, hQ => RZ.nextOf_tuple_item hit hl hx hQ
theorem next_end {k : Kd} {it l : Addr} {i : Nat} {items : Array Value} {Q : Value → Shared → Prop} (hh : A.handled = none) (hit : IsCur k s.heap it l i) (hl : IsSeq k s.heap l items) (hx : items[i]? = none)
    (hE : ∀ h' e, Heap.ExtBut it s.heap h' → (∃ o, h'.get? e = some o ∧ o.cls = .type "StopIteration") → E (.ref e) { s with heap := h' }) : wpAny (model prog w) A (Builtin.SmallTypes.nextOf (.ref it)) Q E s := match k, hit, hl with
  | .l, hit, hl => wpAny_nextOf_list_end hh hit hl hx hE
  | .t, hit, hl => RZ.nextOf_tuple_end hh hit hl hx hE
variable {z TI TO i1 i2 l1 l2 : Addr} {n1 n2 : Nat} {xs ys : Array Value} {x y a b : Value} {p q : Kd}
/-- how zip stands between two of its turns -/
structure Std (p q : Kd) (h : Heap) (z TI TO i1 i2 l1 l2 : Addr) (n1 n2 : Nat) : Prop where
  z : IsZip h z TI TO .none
  ti : IsPair h TI (.ref i1) (.ref i2)
  to : ∃ a b, IsPair h TO a b
  c1 : IsCur p h i1 l1 n1
  c2 : IsCur q h i2 l2 n2
/-- what all else keeps -/
def Kept (z TO i1 i2 : Addr) (h h' : Heap) : Prop := ∀ c o, c ≠ z → c ≠ TO → c ≠ i1 → c ≠ i2 → h.get? c = some o → h'.get? c = some o
theorem zip_item {Q : Value → Shared → Prop} (D : ZipApart z TI TO i1 i2 l1 l2) (S : Std p q s.heap z TI TO i1 i2 l1 l2 n1 n2) (hl1 : IsSeq p s.heap l1 xs) (hl2 : IsSeq q s.heap l2 ys) (hx : xs[n1]? = some x) (hy : ys[n2]? = some y)
    (hQ : ∀ h', IsZip h' z TI TO (rawInt s.heap.objs.size) → IsPair h' TO x y → IsCur p h' i1 l1 (n1 + 1) → IsCur q h' i2 l2 (n2 + 1) → IsPair h' s.heap.objs.size x y → h'.objs.size = s.heap.objs.size + 1 → Kept z TO i1 i2 s.heap h' → Q (.ref s.heap.objs.size) { s with heap := h' }) :
    wpAny (model prog w) A (Builtin.«zip.__next__» ⟨[.ref z], []⟩) (fun fin s' => ∃ v, fin = .done (.ret v) ∧ Q v s') E s := by
  obtain ⟨a, b, hTO⟩ := S.to
  have hz := S.z
  show wpAny _ _ (field (.ref z) 2 >>= _) _ _ _
  refine wpAny_bind (wpAny_field hz rfl (x := .bool false) rfl ?_)
  show wpAny _ _ (field (.ref z) 3 >>= _) _ _ _
  refine wpAny_bind (wpAny_field hz rfl (x := .ref TI) rfl ?_)
  refine wpAny_bind (wpAny_seqItems S.ti rfl ?_)
  show wpAny _ _ (Builtin.SmallTypes.ownedTupleIsFree (.ref z) >>= _) _ _ _
  refine wpAny_bind ?_
  unfold Builtin.SmallTypes.ownedTupleIsFree
  refine wpAny_bind (wpAny_field hz rfl (x := .none) rfl (wpAny_pure ?_))
  simp only [if_true]
  refine wpAny_bind (wpAny_rule ?_)
  refine wpAny_bind (wpAny_field hz rfl (x := .ref TO) rfl ?_)
  refine wpAny_bind (wpAny_setField_rec hz (by simp) fun g1 z1 s1 => ?_)
  refine wpAny_bind ?_
  simp only [List.zipIdx_cons, List.zipIdx_nil, List.forIn_cons, List.forIn_nil]
  have x1 := s1.extBut
  refine wpAny_bind (wpAny_bind (wpAny_onRaise ?_))
  show wpAny _ _ (Builtin.SmallTypes.nextOf (.ref i1) >>= _) _ _ _
  refine wpAny_bind (next_item (S.c1.ext x1 D.i1z) (hl1.ext x1 D.l1z) hx fun g2 c1 s2 => wpAny_pure ?_)
  have x2 := s2.extBut
  have t2 : IsPair g2 TO a b := x2 _ _ D.TOi1 (x1 _ _ D.TOz hTO)
  refine wpAny_bind (wpAny_seqItems t2 rfl ?_)
  refine wpAny_bind (wpAny_updateSeq_pair t2 fun g3 t3 s3 => ?_)
  have x3 := s3.extBut
  have t3 : IsPair g3 TO x b := t3
  refine wpAny_bind (wpAny_letGo (wpAny_pure ?_))
  refine wpAny_bind (wpAny_bind (wpAny_onRaise ?_))
  show wpAny _ _ (Builtin.SmallTypes.nextOf (.ref i2) >>= _) _ _ _
  refine wpAny_bind (next_item (((S.c2.ext x1 D.i2z).ext x2 D.i12.symm).ext x3 D.TOi2.symm) (((hl2.ext x1 D.l2z).ext x2 D.l2i1).ext x3 D.l2TO) hy fun g4 c2 s4 => wpAny_pure ?_)
  have x4 := s4.extBut
  have t4 : IsPair g4 TO x b := x4 _ _ D.TOi2 t3
  refine wpAny_bind (wpAny_seqItems t4 rfl ?_)
  refine wpAny_bind (wpAny_updateSeq_pair t4 fun g5 t5 s5 => ?_)
  have x5 := s5.extBut
  have t5 : IsPair g5 TO x y := t5
  refine wpAny_bind (wpAny_letGo (wpAny_pure (wpAny_pure ?_)))
  refine wpAny_bind (wpAny_seqItems t5 rfl ?_)
  refine wpAny_bind (wpAny_newTuple ?_)
  have sz : g5.objs.size = s.heap.objs.size := by rw [s5.1, s4.1, s3.1, s2.1, s1.1]
  have z5 : IsZip g5 z TI TO .ellipsis := x5 _ _ D.TOz.symm (x4 _ _ D.i2z.symm (x3 _ _ D.TOz.symm (x2 _ _ D.i1z.symm z1)))
  have k5 : Kept z TO i1 i2 s.heap g5 := fun c o h1 h2 h3 h4 e => x5 _ _ h2 (x4 _ _ h4 (x3 _ _ h2 (x2 _ _ h3 (x1 _ _ h1 e))))
  have d1 : IsCur p g5 i1 l1 (n1 + 1) := ((c1.ext x3 D.TOi1.symm).ext x4 D.i12).ext x5 D.TOi1.symm
  have d2 : IsCur q g5 i2 l2 (n2 + 1) := c2.ext x5 D.TOi2.symm
  have zlt : z < g5.objs.size := Heap.lt_size z5
  show wpAny _ _ (Builtin.SmallTypes.ownedTupleHandOut (.ref z) (.ref g5.objs.size) >>= _) _ _ _
  refine wpAny_bind ?_
  unfold Builtin.SmallTypes.ownedTupleHandOut
  have z6 : IsZip (g5.push { cls := .type "tuple", data := .seq #[x, y] }) z TI TO .ellipsis := Heap.get?_push_of_some _ z5
  refine wpAny_bind (wpAny_setField_rec z6 (by simp) fun g7 z7 s7 => ?_)
  have z7 : IsZip g7 z TI TO (rawInt g5.objs.size) := z7
  refine wpAny_setField_rec z7 (by simp) fun g8 z8 s8 => ?_
  have z8 : IsZip g8 z TI TO (rawInt g5.objs.size) := z8
  have up : ∀ c o, c ≠ z → g5.get? c = some o → g8.get? c = some o := fun c o h1 e => s8.extBut _ _ h1 (s7.extBut _ _ h1 (Heap.get?_push_of_some _ e))
  have t8 : IsPair g8 g5.objs.size x y := s8.extBut _ _ (Nat.ne_of_gt zlt) (s7.extBut _ _ (Nat.ne_of_gt zlt) (Heap.get?_push_size _ rfl))
  have sz8 : g8.objs.size = g5.objs.size + 1 := by rw [s8.1, s7.1, Heap.size_push]
  rw [sz] at z8 t8 sz8
  refine wpAny_pure ⟨_, rfl, ?_⟩
  show Q (.ref g5.objs.size) _
  rw [sz]
  exact hQ g8 z8 (up _ _ D.TOz t5) (d1.at fun o e => up _ o D.i1z e) (d2.at fun o e => up _ o D.i2z e) t8 sz8 fun c o h1 h2 h3 h4 e => up c o h1 (k5 c o h1 h2 h3 h4 e)
theorem zip_end {Q : Fin → Shared → Prop} (hh : A.handled = none) (D : ZipApart z TI TO i1 i2 l1 l2) (S : Std p q s.heap z TI TO i1 i2 l1 l2 n1 n2) (hl1 : IsSeq p s.heap l1 xs) (hl2 : IsSeq q s.heap l2 ys) (hend : xs[n1]? = none ∨ ys[n2]? = none)
    (hE : ∀ h' e, Kept z TO i1 i2 s.heap h' → (∃ o, h'.get? e = some o ∧ o.cls = .type "StopIteration") → E (.ref e) { s with heap := h' }) : wpAny (model prog w) A (Builtin.«zip.__next__» ⟨[.ref z], []⟩) Q E s := by
  obtain ⟨a, b, hTO⟩ := S.to
  have hz := S.z
  show wpAny _ _ (field (.ref z) 2 >>= _) _ _ _
  refine wpAny_bind (wpAny_field hz rfl (x := .bool false) rfl ?_)
  show wpAny _ _ (field (.ref z) 3 >>= _) _ _ _
  refine wpAny_bind (wpAny_field hz rfl (x := .ref TI) rfl ?_)
  refine wpAny_bind (wpAny_seqItems S.ti rfl ?_)
  show wpAny _ _ (Builtin.SmallTypes.ownedTupleIsFree (.ref z) >>= _) _ _ _
  refine wpAny_bind ?_
  unfold Builtin.SmallTypes.ownedTupleIsFree
  refine wpAny_bind (wpAny_field hz rfl (x := .none) rfl (wpAny_pure ?_))
  simp only [if_true]
  refine wpAny_bind (wpAny_rule ?_)
  refine wpAny_bind (wpAny_field hz rfl (x := .ref TO) rfl ?_)
  refine wpAny_bind (wpAny_setField_rec hz (by simp) fun g1 z1 s1 => ?_)
  have z1 : IsZip g1 z TI TO .ellipsis := z1
  refine wpAny_bind ?_
  simp only [List.zipIdx_cons, List.zipIdx_nil, List.forIn_cons, List.forIn_nil]
  have x1 := s1.extBut
  refine wpAny_bind (wpAny_bind (wpAny_onRaise ?_))
  -- an iterator ends: the flag is set, and the error goes out
  have out : ∀ (g : Heap) (e : Addr), IsZip g z TI TO .ellipsis → Kept z TO i1 i2 s.heap g → (∃ o, g.get? e = some o ∧ o.cls = .type "StopIteration") → ∀ g', Heap.SameBut z g g' → E (.ref e) { s with heap := g' } := fun g e zg kg he g' sg => by
    obtain ⟨oe, h1, h2⟩ := he
    have ez : e ≠ z := fun h => by subst h; rw [zg] at h1; cases h1; simp at h2
    exact hE g' e (fun c o c1 c2 c3 c4 u => sg.extBut _ _ c1 (kg c o c1 c2 c3 c4 u)) ⟨oe, sg.extBut _ _ ez h1, h2⟩
  cases hx : xs[n1]? with
  | none =>
    show wpAny _ _ (Builtin.SmallTypes.nextOf (.ref i1) >>= _) _ _ _
    refine wpAny_bind (next_end hh (S.c1.ext x1 D.i1z) (hl1.ext x1 D.l1z) hx fun g2 e x2 he => ?_)
    have z2 : IsZip g2 z TI TO .ellipsis := x2 _ _ D.i1z.symm z1
    exact wpAny_setField_rec z2 (by simp) fun g3 _ s3 => out g2 e z2 (fun c o c1 _ c3 _ u => x2 _ _ c3 (x1 _ _ c1 u)) he g3 s3
  | some x =>
    have hy : ys[n2]? = none := by
      rcases hend with h | h
      · rw [hx] at h; cases h
      · exact h
    show wpAny _ _ (Builtin.SmallTypes.nextOf (.ref i1) >>= _) _ _ _
    refine wpAny_bind (next_item (S.c1.ext x1 D.i1z) (hl1.ext x1 D.l1z) hx fun g2 c1 s2 => wpAny_pure ?_)
    have x2 := s2.extBut
    have t2 : IsPair g2 TO a b := x2 _ _ D.TOi1 (x1 _ _ D.TOz hTO)
    refine wpAny_bind (wpAny_seqItems t2 rfl ?_)
    refine wpAny_bind (wpAny_updateSeq_pair t2 fun g3 t3 s3 => ?_)
    have x3 := s3.extBut
    refine wpAny_bind (wpAny_letGo (wpAny_pure ?_))
    refine wpAny_bind (wpAny_bind (wpAny_onRaise ?_))
    show wpAny _ _ (Builtin.SmallTypes.nextOf (.ref i2) >>= _) _ _ _
    refine wpAny_bind (next_end hh (((S.c2.ext x1 D.i2z).ext x2 D.i12.symm).ext x3 D.TOi2.symm) (((hl2.ext x1 D.l2z).ext x2 D.l2i1).ext x3 D.l2TO) hy fun g4 e x4 he => ?_)
    have z4 : IsZip g4 z TI TO .ellipsis := x4 _ _ D.i2z.symm (x3 _ _ D.TOz.symm (x2 _ _ D.i1z.symm z1))
    exact wpAny_setField_rec z4 (by simp) fun g5 _ s5 => out g4 e z4 (fun c o c1 c2 c3 c4 u => x4 _ _ c4 (x3 _ _ c2 (x2 _ _ c3 (x1 _ _ c1 u)))) he g5 s5
theorem py_item {Q : Option Value → Shared → Prop} (D : ZipApart z TI TO i1 i2 l1 l2) (S : Std p q s.heap z TI TO i1 i2 l1 l2 n1 n2) (hl1 : IsSeq p s.heap l1 xs) (hl2 : IsSeq q s.heap l2 ys) (hx : xs[n1]? = some x) (hy : ys[n2]? = some y)
    (hQ : ∀ h', IsZip h' z TI TO (rawInt s.heap.objs.size) → IsPair h' TO x y → IsCur p h' i1 l1 (n1 + 1) → IsCur q h' i2 l2 (n2 + 1) → IsPair h' s.heap.objs.size x y → h'.objs.size = s.heap.objs.size + 1 → Kept z TO i1 i2 s.heap h' → Q (some (.ref s.heap.objs.size)) { s with heap := h' }) :
    wpAny (model prog w) A (pyNext (.ref z)) Q E s := by
  have hT : s.TypeIs (.ref z) "zip" := ⟨_, S.z, rfl⟩
  unfold pyNext
  exact wpAny_bind (wpAny_attempt (wpAny_callSpecial?_slot (name := Str.ofString "__next__") hT F.slot_zip_next (wpAny_call_entry F.slot_zip_next hT F.entry_zip_next
    (zip_item D S hl1 hl2 hx hy fun h' a1 a2 a3 a4 a5 a6 a7 => wpAny_pure (hQ h' a1 a2 a3 a4 a5 a6 a7)) (F.args_zip_next_1 _))))
theorem py_end {Q : Option Value → Shared → Prop} (hh : A.handled = none) (D : ZipApart z TI TO i1 i2 l1 l2) (S : Std p q s.heap z TI TO i1 i2 l1 l2 n1 n2) (hl1 : IsSeq p s.heap l1 xs) (hl2 : IsSeq q s.heap l2 ys) (hend : xs[n1]? = none ∨ ys[n2]? = none)
    (hQ : ∀ h', Kept z TO i1 i2 s.heap h' → Q none { s with heap := h' }) : wpAny (model prog w) A (pyNext (.ref z)) Q E s := by
  have hT : s.TypeIs (.ref z) "zip" := ⟨_, S.z, rfl⟩
  unfold pyNext
  refine wpAny_bind (wpAny_attempt (wpAny_callSpecial?_slot (name := Str.ofString "__next__") hT F.slot_zip_next (wpAny_call_entry F.slot_zip_next hT F.entry_zip_next
    (zip_end hh D S hl1 hl2 hend fun h' e hk he => ?_) (F.args_zip_next_1 _))))
  obtain ⟨o, ho, hc⟩ := he
  exact wpAny_bind (wpAny_isInstance (T := "StopIteration") (b := true) ⟨o, ho, hc⟩ isSubtype_stop (wpAny_pure (hQ _ hk)))
end
end ZX

/-! ground: walks over zip of mixed kinds -/
namespace ZX
open PySem PySem.Spec PyProof.Rows L2
abbrev hp1 (p : Kd) (h : Heap) (l1 : Addr) : Heap := h.push { cls := .type (itCls p), data := .fields #[.ref l1, .int 0 0] }
abbrev hp2 (p q : Kd) (h : Heap) (l1 l2 : Addr) : Heap := (hp1 p h l1).push { cls := .type (itCls q), data := .fields #[.ref l2, .int 0 0] }
abbrev hp3 (p q : Kd) (h : Heap) (l1 l2 : Addr) : Heap := (hp2 p q h l1 l2).push { cls := .type "tuple", data := .seq #[.ref h.objs.size, .ref (hp1 p h l1).objs.size] }
abbrev hp4 (p q : Kd) (h : Heap) (l1 l2 : Addr) : Heap := (hp3 p q h l1 l2).push { cls := .type "tuple", data := .seq #[.none, .none] }
abbrev hp5 (p q : Kd) (h : Heap) (l1 l2 : Addr) : Heap := (hp4 p q h l1 l2).push { cls := .type "zip", data := .fields #[.none, .bool false, .bool false, .ref (hp2 p q h l1 l2).objs.size, .ref (hp3 p q h l1 l2).objs.size] }
theorem IsSeq.push {k : Kd} {h : Heap} {a : Addr} {xs : Array Value} (x : IsSeq k h a xs) (o : Obj) : IsSeq k (h.push o) a xs := match k, x with
  | .l, x => Heap.IsList.push x o
  | .t, x => Heap.IsTuple.push x o
theorem IsSeq.lt {k : Kd} {h : Heap} {a : Addr} {xs : Array Value} (x : IsSeq k h a xs) : a < h.objs.size := match k, x with
  | .l, ⟨_, e, _⟩ => Heap.lt_size e
  | .t, ⟨_, e, _⟩ => Heap.lt_size e
theorem new_lt (l1 l2 : Addr) (xs ys : Array Value) : Meets (Builtin.«zip.__new__» ⟨[.type "zip", .ref l1, .ref l2], []⟩) (fun _ R s => s.heap.IsList l1 xs ∧ s.heap.IsTuple l2 ys ∧ R (.ok (.ret (.ref (hp4 .l .t s.heap l1 l2).objs.size))) { s with heap := hp5 .l .t s.heap l1 l2 }) :=
  .of_wp fun prog w A R s h => by
    obtain ⟨hp, g, d, tk, os⟩ := s
    obtain ⟨h1, h2, h⟩ := h
    have hsub := sub_zip
    have L1 : Heap.IsList (Shared.heap ⟨hp, g, d, tk, os⟩) l1 xs := h1
    have L2 : Heap.IsTuple (Shared.heap ⟨hp.push { cls := .type "list_iterator", data := .fields #[.ref l1, .int 0 0] }, g, d, tk, os⟩) l2 ys := Heap.IsTuple.push h2 _
    wp_walk using wpAny_pyIter_list L1, wpAny_pyIter_tuple L2
    exact ⟨_, rfl, h⟩
theorem new_tl (l1 l2 : Addr) (xs ys : Array Value) : Meets (Builtin.«zip.__new__» ⟨[.type "zip", .ref l1, .ref l2], []⟩) (fun _ R s => s.heap.IsTuple l1 xs ∧ s.heap.IsList l2 ys ∧ R (.ok (.ret (.ref (hp4 .t .l s.heap l1 l2).objs.size))) { s with heap := hp5 .t .l s.heap l1 l2 }) :=
  .of_wp fun prog w A R s h => by
    obtain ⟨hp, g, d, tk, os⟩ := s
    obtain ⟨h1, h2, h⟩ := h
    have hsub := sub_zip
    have L1 : Heap.IsTuple (Shared.heap ⟨hp, g, d, tk, os⟩) l1 xs := h1
    have L2 : Heap.IsList (Shared.heap ⟨hp.push { cls := .type "tuple_iterator", data := .fields #[.ref l1, .int 0 0] }, g, d, tk, os⟩) l2 ys := Heap.IsList.push h2 _
    wp_walk using wpAny_pyIter_tuple L1, wpAny_pyIter_list L2
    exact ⟨_, rfl, h⟩
theorem new_kd : ∀ (p q : Kd) (l1 l2 : Addr) (xs ys : Array Value), Meets (Builtin.«zip.__new__» ⟨[.type "zip", .ref l1, .ref l2], []⟩) (fun _ R s => IsSeq p s.heap l1 xs ∧ IsSeq q s.heap l2 ys ∧ R (.ok (.ret (.ref (hp4 p q s.heap l1 l2).objs.size))) { s with heap := hp5 p q s.heap l1 l2 })
  | .l, .l, l1, l2, xs, ys => meets_zip_new l1 l2 xs ys
  | .l, .t, l1, l2, xs, ys => new_lt l1 l2 xs ys
  | .t, .l, l1, l2, xs, ys => new_tl l1 l2 xs ys
  | .t, .t, l1, l2, xs, ys => RZ.meets_zipT_new l1 l2 xs ys
theorem cur0 {k : Kd} {h : Heap} {it a : Addr} (e : h.get? it = some { cls := .type (itCls k), data := .fields #[.ref a, .int 0 0] }) : IsCur k h it a 0 := match k, e with
  | .l, e => ⟨_, e, rfl, rfl⟩
  | .t, e => ⟨_, e, rfl, rfl⟩
section
variable {prog : Program} {w : World} {A : Around} {E : Value → Shared → Prop} {s : Shared}
theorem call_zip {p q : Kd} {l1 l2 : Addr} {xs ys : Array Value} {Q : Value → Shared → Prop} (hl1 : IsSeq p s.heap l1 xs) (hl2 : IsSeq q s.heap l2 ys)
    (h : ∀ h', Std p q h' (s.heap.objs.size + 4) (s.heap.objs.size + 2) (s.heap.objs.size + 3) s.heap.objs.size (s.heap.objs.size + 1) l1 l2 0 0 → (∀ c o, s.heap.get? c = some o → h'.get? c = some o) → Q (.ref (s.heap.objs.size + 4)) { s with heap := h' }) :
    wpAny (model prog w) A (call (.type "zip") [.ref l1, .ref l2]) Q E s := by
  refine callType_new F.called_zip (by decide) (F.typeCall_zip_2 _ _) (F.newCall_zip_2 _ _) (fun obj => F.args_object_init_3 obj _ _) F.entry_zip_new (new_kd p q l1 l2 xs ys) ⟨hl1, hl2, ?_⟩
  have n1 : (hp1 p s.heap l1).objs.size = s.heap.objs.size + 1 := Heap.size_push ..
  have n2 : (hp2 p q s.heap l1 l2).objs.size = s.heap.objs.size + 2 := by rw [Heap.size_push, n1]
  have n3 : (hp3 p q s.heap l1 l2).objs.size = s.heap.objs.size + 3 := by rw [Heap.size_push, n2]
  have n4 : (hp4 p q s.heap l1 l2).objs.size = s.heap.objs.size + 4 := by rw [Heap.size_push, n3]
  have up : ∀ c o, s.heap.get? c = some o → (hp5 p q s.heap l1 l2).get? c = some o := fun c o x => Heap.get?_push_of_some _ (Heap.get?_push_of_some _ (Heap.get?_push_of_some _ (Heap.get?_push_of_some _ (Heap.get?_push_of_some _ x))))
  have g5 : (hp5 p q s.heap l1 l2).get? (hp4 p q s.heap l1 l2).objs.size = some _ := Heap.get?_push_size _ rfl
  have g4 : (hp5 p q s.heap l1 l2).get? (hp3 p q s.heap l1 l2).objs.size = some _ := Heap.get?_push_of_some _ (Heap.get?_push_size _ rfl)
  have g3 : (hp5 p q s.heap l1 l2).get? (hp2 p q s.heap l1 l2).objs.size = some _ := Heap.get?_push_of_some _ (Heap.get?_push_of_some _ (Heap.get?_push_size _ rfl))
  have g2 : (hp5 p q s.heap l1 l2).get? (hp1 p s.heap l1).objs.size = some _ := Heap.get?_push_of_some _ (Heap.get?_push_of_some _ (Heap.get?_push_of_some _ (Heap.get?_push_size _ rfl)))
  have g1 : (hp5 p q s.heap l1 l2).get? s.heap.objs.size = some _ := Heap.get?_push_of_some _ (Heap.get?_push_of_some _ (Heap.get?_push_of_some _ (Heap.get?_push_of_some _ (Heap.get?_push_size _ rfl))))
  show _ ∧ _
  rw [n2, n3, n4] at g5
  rw [n1, n2] at g3
  rw [n3] at g4
  rw [n1] at g2
  rw [n4]
  exact ⟨⟨_, g5, rfl⟩, h _ ⟨g5, g3, ⟨_, _, g4⟩, cur0 g1, cur0 g2⟩ up⟩
end
/-- a list, a tuple, as it is known -/
def SqX (p : Kd) (K : PySem.W.Frag) (H : Hp) (a : Addr) (xs : List V) : Prop := match p with
  | .l => SqL K H a xs
  | .t => SqT K H a xs
section
variable {X : Cx} {pins : List (Addr × Obj)} {σ : L2.St} {H : Hp} {s : Shared} {a : Addr} {xs ys : List V} {p : Kd}
theorem seq_of (I : Inv X pins σ H s) (h : SqX p X.K H a xs) : ∃ its : List Value, Vals xs its ∧ IsSeq p s.heap a its.toArray := match p, h with
  | .l, h => by
    obtain ⟨its, r, pl, _⟩ := I.list h
    exact ⟨its, r, pl.isList⟩
  | .t, h => by
    obtain ⟨its, r, pl, _⟩ := I.tuple h
    exact ⟨its, r, pl⟩
theorem seq_inj (I : Inv X pins σ H s) (h : SqX p X.K H a xs) (h' : SqX p X.K H a ys) : xs = ys := match p, h, h' with
  | .l, h, h' => I.list_inj h h'
  | .t, h, h' => I.tuple_inj h h'
end
def ItX (p q : Kd) (K : PySem.W.Frag) (a b : Addr) : It :=
  ⟨fun i H => ∃ (xs ys : List V) (x y : V), SqX p K H a xs ∧ SqX q K H b ys ∧ xs[i]? = some x ∧ ys[i]? = some y,
    fun i H v H' => ∃ T x y, v = .ref T ∧ H T = none ∧ H' = upd H T (.tup [x, y]) ∧ (∀ xs, SqX p K H a xs → xs[i]? = some x) ∧ ∀ ys, SqX q K H b ys → ys[i]? = some y,
    fun i H => ∃ xs ys : List V, SqX p K H a xs ∧ SqX q K H b ys ∧ (xs.length ≤ i ∨ ys.length ≤ i)⟩
theorem turnX {P : Program} {w : World} {K : PySem.W.Frag} {elts : List Expr} {kk : Nat} {tpos : Pos} {p q : Kd} {a b z TI TO i1 i2 : Addr} (D : ZipApart z TI TO i1 i2 a b) :
    Turn P w K (.Tuple elts kk tpos) (ItX p q K a b) [z, TI, TO, i1, i2] z (fun i h => Std p q h z TI TO i1 i2 a b i i) where
  mem := by simp
  obj := fun i h st c hc => by
    obtain ⟨x, y, hTO⟩ := st.to
    have e' : c = z ∨ c = TI ∨ c = TO ∨ c = i1 ∨ c = i2 := by simpa using hc
    rcases e' with e | e | e | e | e
    · rw [e]; exact ⟨_, st.z, fun v q => nomatch q⟩
    · rw [e]; exact ⟨_, st.ti, fun v q => nomatch q⟩
    · rw [e]; exact ⟨_, hTO, fun v q => nomatch q⟩
    · rw [e]; exact st.c1.obj
    · rw [e]; exact st.c2.obj
  keep := fun i h h' st k => by
    obtain ⟨x, y, hTO⟩ := st.to
    exact ⟨k z (by simp) _ st.z, k TI (by simp) _ st.ti, ⟨x, y, k TO (by simp) _ hTO⟩, st.c1.at fun o q => k i1 (by simp) o q, st.c2.at fun o q => k i2 (by simp) o q⟩
  item := by
    intro X hP hw hK hc i pins s σ H E I hf st hg
    subst hP hw hK
    obtain ⟨xs, ys, x, y, hqx, hqy, hx, hy⟩ := hg
    obtain ⟨its, rv, pl⟩ := seq_of I hqx
    obtain ⟨its2, rv2, pl2⟩ := seq_of I hqy
    obtain ⟨u, hu, ru⟩ := rv.get hx
    obtain ⟨u2, hu2, ru2⟩ := rv2.get hy
    have hzl : z < s.heap.objs.size := Heap.lt_size st.z
    refine py_item D st pl pl2 (x := u) (y := u2) (by simpa using hu) (by simpa using hu2) fun h' z' TO' h1' h2' hT hsz hk => ?_
    refine ⟨_, rfl, wpAny_letOwnedTupleGo_zip (s := { s with heap := h' }) z' fun h'' z'' sb => ?_⟩
    have hT2 : h''.get? s.heap.objs.size = some { cls := .type "tuple", data := .seq #[u, u2] } := (sb.2 _ (Nat.ne_of_gt hzl)).trans hT
    have new : ObjOk X.prog X.w (upd H s.heap.objs.size (.tup [x, y])) h'' s.heap.objs.size (.tup [x, y]) := ⟨by show 2 ≤ sizeLine; decide, [u, u2], .cons ru (.cons ru2 .nil), ⟨_, hT2, rfl, _, rfl⟩⟩
    have I1 : Inv X pins σ (upd H s.heap.objs.size (.tup [x, y])) { s with heap := h'' } :=
      I.turnedNew (t' := s.toks) (ch := [z, TI, TO, i1, i2]) (fun c o hb e => (sb.2 c (fun q' => hb (by simp [q']))).trans (hk c o (fun q' => hb (by simp [q'])) (fun q' => hb (by simp [q'])) (fun q' => hb (by simp [q'])) (fun q' => hb (by simp [q'])) e)) hf (Nat.le_refl _) new
    refine ⟨.ref s.heap.objs.size, _, I1, rfl, ⟨_, x, y, rfl, I.hok.fresh (Nat.le_refl _), rfl, fun l hl => by rw [seq_inj I hl hqx]; exact hx, fun l hl => by rw [seq_inj I hl hqy]; exact hy⟩, ⟨z'', ?_, ⟨u, u2, ?_⟩, ?_, ?_⟩, fun c hcm => ?_⟩
    · exact (sb.2 _ D.TIz).trans (hk _ _ D.TIz D.TITO D.TIi1 D.TIi2 st.ti)
    · exact (sb.2 _ D.TOz).trans TO'
    · exact h1'.at fun o e => (sb.2 _ D.i1z).trans e
    · exact h2'.at fun o e => (sb.2 _ D.i2z).trans e
    · have hlt : c < s.heap.objs.size := by
        obtain ⟨_, _, hTO⟩ := st.to
        have e' : c = z ∨ c = TI ∨ c = TO ∨ c = i1 ∨ c = i2 := by simpa using hcm
        rcases e' with e | e | e | e | e
        · rw [e]; exact hzl
        · rw [e]; exact Heap.lt_size st.ti
        · rw [e]; exact Heap.lt_size hTO
        · rw [e]; exact st.c1.lt
        · rw [e]; exact st.c2.lt
      rw [upd_ne (Nat.ne_of_lt hlt)]
      exact (hf c hcm).1
  done := by
    intro X hP hw hK hc i pins s σ H E I hf st hg
    subst hP hw hK
    obtain ⟨xs, ys, hqx, hqy, hend⟩ := hg
    obtain ⟨its, rv, pl⟩ := seq_of I hqx
    obtain ⟨its2, rv2, pl2⟩ := seq_of I hqy
    have l1 := rv.length
    have l2 := rv2.length
    have he : its.toArray[i]? = none ∨ its2.toArray[i]? = none := by
      rcases hend with e | e
      · exact .inl (by simp; omega)
      · exact .inr (by simp; omega)
    exact py_end (I.ok.hd hc) D st pl pl2 he fun h' hk => ⟨rfl, I.turnedL (t' := s.toks) (ch := [z, TI, TO, i1, i2]) (fun c o hb e =>
      hk c o (fun q' => hb (by simp [q'])) (fun q' => hb (by simp [q'])) (fun q' => hb (by simp [q'])) (fun q' => hb (by simp [q'])) e) hf⟩
  self := fun A i s Q E st h => wpAny_pyIter_zip st.z h
def iZipX (K : PySem.W.Frag) (p q : Kd) (ta : TA) : TI := fun σ H R => ta σ H fun vs H1 => ∃ a b xs ys, vs = [.ref a, .ref b] ∧ SqX p K H1 a xs ∧ SqX q K H1 b ys ∧ R (ItX p q K a b) H1
theorem pi_zipX {X : Cx} (p q : Kd) {e e2 : Expr} {ta : TA} {pp pos tpos : Pos} {elts : List Expr} {kk : Nat} (hg : Gl X "zip") (hm : X.mg "zip" = none) (ha : PA X [e, e2] ta)
    (hs : starEach [e, e2] X.env = (false, eval e X.env) :: starEach [e2] X.env := by rfl) (hpl : (backTo pos (starEach [e2] X.env)).any (·.1) = false := by rfl) : PI X (.Tuple elts kk tpos) (.Call (.Name "zip" pp) [e, e2] [] pos) (iZipX X.K p q ta) := by
  refine ⟨fun pins s σ H R I h => ?_⟩
  refine Call_ (ld_blt I hg hm PyProof.Rows.boot_zip (PyProof.Rows.callWith_type1 (thn (ha.run pos pins s σ H _ I h) fun us s1 ⟨vs, H1, I1, r1, q1⟩ => ?_) hs hpl))
  obtain ⟨a, b, xs, ys, ex, hqx, hqy, qq⟩ := q1
  subst ex
  cases r1 with
  | cons r rr =>
    cases rr with
    | cons r' rr =>
      cases rr
      cases r
      cases r'
      have fresh5 : ∀ c, c ∈ [s1.heap.objs.size + 4, s1.heap.objs.size + 2, s1.heap.objs.size + 3, s1.heap.objs.size, s1.heap.objs.size + 1] → FpOk X pins H1 c := fun c hcm => by
        have hle : s1.heap.objs.size ≤ c := by
          simp only [List.mem_cons, List.not_mem_nil, or_false] at hcm
          rcases hcm with e | e | e | e | e <;> rw [e] <;> first | exact Nat.le_add_right _ _ | exact Nat.le_refl _
        exact I1.fpOk hle (I1.hok.fresh hle)
      obtain ⟨its, rv, p1⟩ := seq_of I1 hqx
      obtain ⟨its2, rv2, p2⟩ := seq_of I1 hqy
      refine call_zip p1 p2 fun h' S hk => wpAny_pyIter_zip S.z ?_
      have I2 : Inv X pins σ H1 { s1 with heap := h' } := I1.kept (t' := s1.toks) hk
      exact ⟨s1.heap.objs.size + 4, [s1.heap.objs.size + 4, s1.heap.objs.size + 2, s1.heap.objs.size + 3, s1.heap.objs.size, s1.heap.objs.size + 1], _, _, H1, rfl, I2, turnX (PySem.W.ktu_apart s1.heap.objs.size a b p1.lt p2.lt), S, fresh5, qq⟩
end ZX

/-! ground: zip of mixed kinds, over data -/
namespace DN
open PySem PySem.Spec PyProof.Rows L2 ZX
variable [Tb]
section
variable {ρ : Rh} {K : PySem.W.Frag} {δ : Dl} {tA : TA}
def seqOfK (p : Kd) (ds : List D) : D := match p with
  | .l => .lst ds
  | .t => .tup ds
theorem sqX_same {p : Kd} {H H' : Hp} {a : Addr} {xs : List V} (s : Same H H') (h : SqX p K H a xs) : SqX p K H' a xs := match p, h with
  | .l, h => by
    rcases h with h | h
    · rcases h with h | ⟨o, h⟩
      · exact .inl (.inl (s _ _ h))
      · exact .inl (.inr ⟨o, s _ _ h⟩)
    · exact .inr h
  | .t, h => Same.sqT s h
theorem at_seqK {p : Kd} {G : Hp} {v : V} {ds : List D} (h : At K G v (seqOfK p ds)) : ∃ a xs, v = .ref a ∧ SqX p K G a xs ∧ AtL K G xs ds := match p, h with
  | .l, h => by
    cases h with
    | @lst a xs _ ha hl => exact ⟨a, xs, rfl, .inl (.inl ha), hl⟩
  | .t, h => by
    cases h with
    | @tup a xs _ ha hl => exact ⟨a, xs, rfl, ha, hl⟩
theorem ij_zipX (p q : Kd) {ds es : List D} (h : EDA ρ K tA δ [seqOfK p ds, seqOfK q es]) : IJ ρ K (iZipX K p q tA) δ 0 (· = (ds.zip es).map fun p => D.tup [p.1, p.2]) := .mk fun G0 H0 G H σ m R w hm qq =>
  (h).run G0 H0 G H σ m _ w hm fun fs vs G' H' m' pd w' g l x => by
    subst pd
    cases x with
    | cons x r =>
      cases r with
      | cons y r =>
        cases r
        obtain ⟨a, xs, rfl, ha, hl⟩ := at_seqK x
        obtain ⟨b, ys, rfl, hb, hl2⟩ := at_seqK y
        have e := hl.len
        have e2 := hl2.len
        have wk : L2.Walk (ItX p q K a b) (xs.zip ys).length (fun H => SqX p K H a xs ∧ SqX q K H b ys) (YPair (fun i => xs[i]?) (fun i => ys[i]?)) := by
          rw [List.length_zip]
          refine ⟨fun i _ hi q => ?_, fun _ q => ⟨xs, ys, q.1, q.2, by omega⟩, fun i H v H' _ q y => ?_⟩
          · have h1 : i < xs.length := by omega
            have h2 : i < ys.length := by omega
            exact ⟨xs, ys, xs[i], ys[i], q.1, q.2, by simp [h1], by simp [h2]⟩
          · obtain ⟨T, x, z, h1, h2, h3, h4, h5⟩ := y
            exact ⟨T, x, z, h1, h2, h3, h4 xs q.1, h5 ys q.2⟩
        refine ⟨a, b, xs, ys, rfl, sqX_same w'.gd.sub ha, sqX_same w'.gd.sub hb, qq _ (ItX p q K a b) G' H' (fun H => SqX p K H a xs ∧ SqX q K H b ys) _ m' rfl w' g l (by simp only [List.length_map, List.length_zip]; rw [← e, ← e2, ← List.length_zip]; exact wk) (fun H2 s => ⟨sqX_same s ha, sqX_same s hb⟩) ?_⟩
        intro i x H1 H2 Gx hi s1 s2 y
        obtain ⟨T, x, y, rfl, hT, rfl, e1, e2⟩ := y
        obtain ⟨d, hd, hat⟩ := AtL.getv (hl.mono s1) e1
        obtain ⟨d2, hd2, hat2⟩ := AtL.getv (hl2.mono s1) e2
        obtain ⟨G2, g2, h2⟩ := pair_at s2 hT rfl hat hat2
        refine ⟨G2, _, ?_, g2, h2⟩
        simp [List.getElem?_map, hd, hd2, List.zip, List.getElem?_zipWith]
end
end DN

namespace DN
open PySem PySem.Spec PyProof.Rows L2
variable [Tb]
def topS (i : Nat) : Stmt := PySem.Challenge.pw_downhillnet_k04_whole_which_ticks_keep_a.main.body.getD i (.Pass ⟨0, 0, 0, 0⟩)
abbrev s__law_pot : Stmt := topS 41
theorem sc__law_pot : FnScope ["script", "place", "cell", "own", "small"] ["script", "place"] (defScope s__law_pot) := ⟨rfl, rfl, rfl, by decide +kernel, rfl, by decide +kernel, by decide +kernel⟩
abbrev s__law_take : Stmt := topS 42
theorem sc__law_take : FnScope ["pot", "upto", "prime", "blend", "digit"] ["pot", "upto"] (defScope s__law_take) := ⟨rfl, rfl, rfl, by decide +kernel, rfl, by decide +kernel, by decide +kernel⟩
abbrev s__law_of : Stmt := topS 43
theorem sc__law_of : FnScope ["pot", "some"] ["pot", "some"] (defScope s__law_of) := ⟨rfl, rfl, rfl, by decide +kernel, rfl, by decide +kernel, by decide +kernel⟩
abbrev s__law_cells : Stmt := topS 45
theorem sc__law_cells : FnScope ["script", "most"] ["script", "most"] (defScope s__law_cells) := ⟨rfl, rfl, rfl, by decide +kernel, rfl, by decide +kernel, by decide +kernel⟩

def preTake (ρ : Rh) (ds : List D) : Prop := ∃ (a : Addr) (u : Int), ds = [.opq (.ref a), .int u] ∧ ρ = .some a ∧ 0 < u ∧ u < 2 ^ 62
def postTake (ds : List D) (d : D) : Prop := ∀ (a : V) (u : Int), ds = [.opq a, .int u] → ∃ r, d = .int r ∧ 0 ≤ r ∧ r < u
abbrev spTake (K : PySem.W.Frag) : Sp := spJ K 2 preTake 1 postTake

local macro_rules | `(tactic| walk_at "side") => `(tactic| first | omega | decide | assumption | (refine wide_mul (a := 400) (b := 400) ?_ ?_ (by decide) (by decide) (by decide) <;> omega) | (refine wide_div (b := 400) ?_ ?_ (by decide) (by decide) <;> omega) | (refine powW_of (a := 400) ?_ (by decide) (by decide) (by decide); omega))
local macro_rules | `(tactic| walk_at "rj") => `(tactic| first | exact rj_I0 | exact rj_B0 | (apply rj_I; (· walk_at "side")) | exact rj_eqI | exact rj_neI | exact rj_eqS | exact rj_neS | exact rj_eq rfl | exact rj_ne rfl | exact rj_ixL rfl | exact rj_ixT rfl)
local macro_rules | `(tactic| walk_at "cj") => `(tactic| first | exact cj_len | exact cj_lenT | exact cj_abs | exact cj_int | exact cj_intB | exact cj_max2 | exact cj_min2 | exact cj_tupL | exact cj_tupT | exact cj_sum)
local macro_rules | `(tactic| walk_at "eda") => `(tactic| first | exact eda_nil | (apply eda_cons; (· walk_at "ed"); (· walk_at "eda")))
local macro_rules | `(tactic| walk_at "ed") => `(tactic| first | exact ed_int | exact ed_str | exact ed_bl | exact ed_non | exact ed_var rfl | (apply ed_op; (· walk_at "ed"); (· walk_at "ed"); (· walk_at "rj")) | (apply ed_cb; (· walk_at "eda"); (· walk_at "cj")) | (apply ed_tup; (· walk_at "eda"); (· walk_at "side")) | (apply ed_lst; (· walk_at "eda"); (· walk_at "side")) | (apply ed_notV; (· walk_at "ed")))
local macro_rules | `(tactic| walk_at "eb") => `(tactic| first | (apply eb_test; (· walk_at "ed")) | (apply eb_B; (· walk_at "ed")) | (apply eb_not; (· walk_at "eb")))

structure Txt (K : PySem.W.Frag) (mg : Str → Option Value) : Prop where
  b_int : mg "int" = none
  b_len : mg "len" = none
  b_abs : mg "abs" = none
  b_sum : mg "sum" = none
  b_list : mg "list" = none
  b_range : mg "range" = none
  b_max : mg "max" = none
  b_min : mg "min" = none
section
variable {P : Program} {w : World} {K : PySem.W.Frag} {mg : Str → Option Value} {base : Heap}
theorem ok_take {f : Addr} {fd : FuncData} (F : Fun K "_law_take" "_law_take" s__law_take f fd) (T : Txt K mg) : FnOk P w K mg base CX0 1 f fd ["pot", "upto"] (spTake K) := by
  refine F.ok sc__law_take (fun vs H Q E h => spJ_len h) (fun cdv A outer s H vs Q E hr h => ?_)
  obtain ⟨ρ, G, ds, m, hat, hl, hs, hp, hg, hm, ⟨a, u, rfl, rfl, hu0, hu1⟩, q⟩ := h
  have hps := hp
  obtain ⟨o, b, c, hp, B⟩ : Pot m H a := hps.pot a rfl
  have ga : G a = none := hg a (.inl rfl)
  have potT : ∀ {o2 : HO} {m2 : Nat}, Nt o2 → Pot m2 (upd H a o2) a → PotS (.some a) m2 (upd H a o2) := fun ho h => ⟨tabs_upd hps.tabs hp rfl, hps.only.upd ho, fun a' e => by cases e; exact h⟩
  cases hat with
  | cons h1 hat =>
  cases hat with
  | cons h2 hat =>
  cases hat
  cases h1
  cases h2
  refine ⟨_, (pss_cons (ps_if (pt_cmpR op_gt (pe_ix ix_list (pv 0) pe_int (fun _ _ => rfl)) pe_int (by first | exact nomark _ | rfl)) (pss_cons (ps_set (i := 4) sc__law_take.nd rfl (by first | exact Or.inl rfl | exact Or.inr rfl) (pe_op op_mod (pe_callTy call_int1 (by rfl) T.b_int (by decide +kernel) (pa_cons (pe_ix ix_list (pv 0) pe_int (fun _ _ => rfl)) pa_nil)) (pv 1)))
 (pss_cons (ps_asg (pe_op op_fdivW (pe_ix ix_list (pv 0) pe_int (fun _ _ => rfl)) (pv 1)) (pg_sub (pv 0) pe_int set_list))
 (pss_one (ps_ret (pv 4))))) pss_nil)
 (pss_cons (ps_asg (pe_op op_add (pe_ix ix_list (pv 0) pe_int (fun _ _ => rfl)) pe_int) (pg_sub (pv 0) pe_int set_list))
 (pss_cons (ps_set (i := 2) sc__law_take.nd rfl (by first | exact Or.inl rfl | exact Or.inr rfl) (pe_ix ix_list (pe_lst (pa_cons pe_int (pa_cons pe_int (pa_cons pe_int (pa_cons pe_int (pa_cons pe_int pa_nil)))))) (pe_op op_mod (pe_callTy call_int1 (by rfl) T.b_int (by decide +kernel) (pa_cons (pe_ix ix_list (pv 0) pe_int (fun _ _ => rfl)) pa_nil)) pe_int) (fun _ _ => rfl)))
 (pss_cons (ps_set (i := 3) sc__law_take.nd rfl (by first | exact Or.inl rfl | exact Or.inr rfl) (pe_op op_mod (pe_callTy call_int1 (by rfl) T.b_int (by decide +kernel) (pa_cons (pe_op op_powW (pe_callTy call_int1 (by rfl) T.b_int (by decide +kernel) (pa_cons (pe_op op_add (pe_op op_add (pe_ix ix_list (pv 0) pe_int (fun _ _ => rfl)) (pe_op op_mulW (pe_op op_mulW pe_int (pe_ix ix_list (pv 0) pe_int (fun _ _ => rfl))) (pe_ix ix_list (pv 0) pe_int (fun _ _ => rfl)))) pe_int) pa_nil)) pe_int) pa_nil)) (pv 2)))
 (pss_cons (ps_set (i := 3) sc__law_take.nd rfl (by first | exact Or.inl rfl | exact Or.inr rfl) (pe_op op_mod (pe_callTy call_int1 (by rfl) T.b_int (by decide +kernel) (pa_cons (pe_op op_mulW (pv 3) (pe_op op_add (pe_op op_mod (pe_callTy call_int1 (by rfl) T.b_int (by decide +kernel) (pa_cons (pv 3) pa_nil)) pe_int) (pe_op op_mulW pe_int (pe_ix ix_list (pv 0) pe_int (fun _ _ => rfl))))) pa_nil)) pe_int))
 (pss_one (ps_ret (pe_op op_mod (pe_callTy call_int1 (by rfl) T.b_int (by decide +kernel) (pa_cons (pe_op op_fdivW (pv 3) pe_int) pa_nil)) (pv 1))))))))), ?_⟩
  -- pot[0] > 0
  have lk : ∀ {x y z : V} {j : Nat} {v : V}, ([x, y, z] : List V)[j]? = some v → atI [x, y, z] (j : Int) = some v := fun e => atI_nat e
  refine ⟨_, rfl, a, _, 0, .int o, rfl, rfl, .inl (.inl hp), lk (j := 0) rfl, o, 0, rfl, rfl, _, rfl, ?_⟩
  by_cases c0 : 0 < o
  · refine ite2 (fun _ => ?_) (fun n => absurd (decide_eq_true c0) n)
    refine ⟨_, rfl, a, _, 0, .int o, rfl, rfl, .inl (.inl hp), lk (j := 0) rfl, .inl ⟨o, rfl, _, rfl, o, u, rfl, rfl, hu0, ?_⟩⟩
    refine ⟨_, rfl, a, _, 0, .int o, rfl, rfl, .inl (.inl hp), lk (j := 0) rfl, _, rfl, o, u, rfl, rfl, wide_div (b := 62) hu0 (by omega) (by decide) (by decide), ?_⟩
    refine ⟨_, rfl, a, _, 0, 0, rfl, rfl, hp, rfl, _, rfl, ?_⟩
    refine q _ _ G _ (m + 1) ?_ (Gd.potUpd hs ga) ?_ (Nat.le_refl _) (.int _)
    · intro a' u' e
      cases e
      exact ⟨_, rfl, Int.emod_nonneg _ (by omega), Int.emod_lt_of_pos _ hu0⟩
    · have h0 : 0 ≤ o / u := Int.ediv_nonneg B.o0 (by omega)
      have h1 : o / u ≤ o := Int.ediv_le_self _ B.o0
      exact potT (by (intro _ z; cases z)) ⟨o / u, b, c, upd_same, ⟨h0, Nat.lt_of_le_of_lt (by omega) B.o1, B.b0, B.b1, B.c0, by have := B.c1; omega⟩⟩
  · refine ite2 (fun n => absurd (of_decide_eq_true n) c0) (fun _ => ?_)
    -- pot[2] = pot[2] + 1
    have hc1 := B.c1
    have hc0 := B.c0
    have hm' : m + 1 ≤ 2 ^ 40 := hm
    refine ⟨_, rfl, a, _, 2, .int c, rfl, rfl, .inl (.inl hp), lk (j := 2) rfl, c, 1, rfl, rfl, ?_⟩
    refine ⟨_, rfl, a, _, 2, 2, rfl, rfl, hp, rfl, ?_⟩
    generalize hH1 : upd H a (.lst ([V.int o, .int b, .int c].set 2 (.int (c + 1)))) = H1
    have hp1 : H1 a = some (.lst [.int o, .int b, .int (c + 1)]) := by rw [← hH1, upd_same]; rfl
    have g1 : Gd (.some a) G H G H1 := by rw [← hH1]; exact Gd.potUpd hs ga
    have pn1 : PotS .none 0 H1 := by rw [← hH1]; exact ⟨tabs_upd hps.tabs hp rfl, hps.only.upd (by (intro _ z; cases z)), fun _ e => nomatch e⟩
    -- from here on the pot stands: it is known
    have hgs : Same G (upd G a (.lst [.int o, .int b, .int (c + 1)])) := same_new ga
    have hsub : Same (upd G a (.lst [.int o, .int b, .int (c + 1)])) H1 := fun x y e => by
      by_cases z : x = a
      · subst z; rw [upd_same] at e; rw [hp1]; exact e
      · rw [upd_ne z] at e; exact g1.sub x y e
    have wf : Wf .none K (upd G a (.lst [.int o, .int b, .int (c + 1)])) H1 (upd G a (.lst [.int o, .int b, .int (c + 1)])) H1 (L2.start ["pot", "upto", "prime", "blend", "digit"] [V.ref a, V.int u]) [some (.val (.lst [.int o, .int b, .int (c + 1)])), some (.val (.int u)), none, none, none] 0 := by
      refine ⟨rfl, Gd.refl hsub, pn1, fun a e => absurd e fxN, fun i s e => ?_, fun i j d e n h1 h2 => ?_⟩
      · match i, e with
        | 0, e => cases e; exact ⟨_, rfl, .lst upd_same (.cons (.int _) (.cons (.int _) (.cons (.int _) .nil)))⟩
        | 1, e => cases e; exact ⟨_, rfl, .int _⟩
        | 2, e => cases e
        | 3, e => cases e
        | 4, e => cases e
        | n + 5, e => simp at e
      · match i, h1 with
        | 0, e => cases e
        | 1, e => cases e
        | 2, e => cases e
        | 3, e => cases e
        | 4, e => cases e
        | n + 5, e => simp at e
    have fin : ∀ v d G' H', (∃ r, d = D.int r ∧ 0 ≤ r ∧ r < u) → Gd .none (upd G a (.lst [.int o, .int b, .int (c + 1)])) H1 G' H' → At K G' v d → Q v H' := by
      intro v d G' H' ⟨r, e, r0, r1⟩ g2 hv
      subst e
      cases hv
      have hp2 : H' a = some (.lst [.int o, .int b, .int (c + 1)]) := g2.keep _ _ fxN hp1
      refine q (.int r) _ G H' (m + 1) (fun a' u' e => by cases e; exact ⟨r, rfl, r0, r1⟩) ⟨fun x y z e => g2.keep x y fxN (g1.keep x y z e), Same.refl _, fun x y e => g2.keep x y fxN (g1.sub x y e), fun x e => .inl e, fun ho => g2.ot (g1.ot ho)⟩ ⟨(pn1.keep g2).tabs, (pn1.keep g2).only, fun a' e => by cases e; exact ⟨o, b, c + 1, hp2, ⟨B.o0, B.o1, B.b0, B.b1, by omega, by omega⟩⟩⟩ (Nat.le_refl _) (.int r)
    have hb0 := B.b0
    have hb1 := B.b1
    have hcc0 : 0 ≤ 98417 * (c + 1) * (c + 1) := Int.mul_nonneg (by omega) (by omega)
    have hcc1 : 98417 * (c + 1) * (c + 1) ≤ 2 ^ 120 := Int.le_trans (Int.mul_le_mul (show 98417 * (c + 1) ≤ 2 ^ 60 by omega) (show c + 1 ≤ 2 ^ 60 by omega) (by omega) (by omega)) (by decide)
    refine sj_run (E := E) (k := 9) (PO := fun o => ∃ r, o = .rt (.int r) ∧ 0 ≤ r ∧ r < u) ?_ wf (by decide) (fun o po => ?_)
    · refine sj_nexts ?_
      dsimp only [cxOf, Cx.nox, Cx.wish]
      apply sj_le
      · apply sj_set
        · apply ej_ixE
          walk_at "ed"
          walk_at "ed"
          omega
          show _ < ((5 : Nat) : Int)
          omega
        intro d hd
        obtain ⟨pr, rfl, hpr0, hpr1⟩ : ∃ pr, d = .int pr ∧ 0 < pr ∧ pr < 2 ^ 31 := by
          simp only [List.mem_cons, List.not_mem_nil, or_false] at hd
          rcases hd with rfl | rfl | rfl | rfl | rfl <;> exact ⟨_, rfl, by decide, by decide⟩
        clear hd
        apply sj_set
        · apply ej_modE
          walk_at "ed"
          walk_at "ed"
          omega
        rintro _ ⟨bl, rfl, bl0, bl1⟩
        have hm0 : 0 ≤ bl % 10017 := Int.emod_nonneg _ (by decide)
        have hm1 : bl % 10017 < 10017 := Int.emod_lt_of_pos _ (by decide)
        apply sj_set
        · apply ej_modE
          walk_at "ed"
          walk_at "ed"
          omega
        rintro _ ⟨bm, rfl, bm0, bm1⟩
        apply sj_retP
        · apply ej_modE
          walk_at "ed"
          walk_at "ed"
          omega
        rintro _ ⟨r, rfl, r0, r1⟩
        exact ⟨r, rfl, r0, r1⟩
      · decide
    · obtain ⟨r, rfl, h⟩ := po
      exact fun v G' H' m' g p l hv => fin v _ G' H' ⟨r, rfl, h⟩ g hv

/-- some[_law_take(pot, len(some))] -/
def preOf (ρ : Rh) (ds : List D) : Prop := ∃ (a : Addr) (s : D), ds = [.opq (.ref a), s] ∧ ρ = .some a ∧ ((∃ l, s = .lst l ∧ 0 < l.length ∧ l.length < 2 ^ 40) ∨ ∃ z : Str, s = .str z ∧ 0 < z.length ∧ z.length < 1000)
def postOf (ds : List D) (d : D) : Prop := (∀ a l, ds = [.opq a, .lst l] → d ∈ l) ∧ (∀ a (z : Str), ds = [.opq a, .str z] → ∃ c ∈ z.cps.toList, d = .str ⟨#[c]⟩)
abbrev spOf (K : PySem.W.Frag) : Sp := spJ K 2 preOf 1 postOf
theorem ok_of {f : Addr} {fd : FuncData} (F : Fun K "_law_of" "_law_of" s__law_of f fd) (T : Txt K mg) (c__law_take : C8.Cal P w K mg base 1 "_law_take" (spTake K) []) : FnOk P w K mg base CX0 2 f fd ["pot", "some"] (spOf K) := by
  refine F.ok sc__law_of (fun vs H Q E h => spJ_len h) (fun cdv A outer s H vs Q E hr h => ?_)
  refine ⟨_, (pss_one (ps_ret (pe_ix ix_seq (pv 1) (C8.pe_c c__law_take hr (by omega) (by rfl) (pa_cons (pv 0) (pa_cons (pe_callB call_len (by rfl) T.b_len (by decide +kernel) (pa_cons (pv 1) pa_nil)) pa_nil))) (fun _ _ => rfl)))), body_of (n := 2) (fun ρ ds hl hp => ?_) h⟩
  obtain ⟨a, s, rfl, rfl, hs⟩ := hp
  dsimp only [cxOf, Cx.nox, Cx.wish]
  rcases hs with ⟨l, rfl, l0, l1⟩ | ⟨z, rfl, z0, z1⟩
  · refine ⟨0 + (0 + (0 + 0) + 1), by decide, ?_⟩
    apply sj_retP (P := fun d => d ∈ l)
    · apply ej_op (P1 := (· = .lst l)) (P2 := fun d => ∃ r, d = .int r ∧ 0 ≤ r ∧ r < (l.length : Int))
      · walk_at "ed"
      · intro _ _
        apply ej_call (PA := (· = [.opq (.ref a), .int (l.length : Nat)]))
        · apply eda_cons
          · exact ed_var rfl
          apply eda_cons
          · exact ed_cb (eda_cons (ed_var rfl) eda_nil) cj_lenA
          exact eda_nil
        · rintro _ rfl
          exact ⟨rfl, a, _, rfl, rfl, by omega, by omega⟩
        · rintro _ d rfl hd
          exact hd _ _ rfl
      · rintro _ _ rfl ⟨r, rfl, r0, r1⟩
        have hi : r.toNat < l.length := by omega
        refine ⟨l[r.toNat], List.getElem_mem hi, rj_ix_lst ?_⟩
        have e : r = (r.toNat : Int) := by omega
        exact atI_of e (List.getElem?_eq_getElem hi)
    · exact fun d hd => .inl ⟨d, rfl, ⟨fun a' l' e => (by cases e; exact hd), fun a' z e => (by cases e)⟩⟩
  · refine ⟨0 + (0 + (0 + 0) + 1), by decide, ?_⟩
    have zl : z.length = z.cps.toList.length := by show z.cps.size = _; simp
    apply sj_retP (P := fun d => ∃ c ∈ z.cps.toList, d = .str ⟨#[c]⟩)
    · apply ej_op (P1 := (· = .str z)) (P2 := fun d => ∃ r, d = .int r ∧ 0 ≤ r ∧ r < (z.length : Int))
      · walk_at "ed"
      · intro _ _
        apply ej_call (PA := (· = [.opq (.ref a), .int (z.length : Nat)]))
        · apply eda_cons
          · exact ed_var rfl
          apply eda_cons
          · exact ed_cb (eda_cons (ed_var rfl) eda_nil) (cj_lenAS (by omega))
          exact eda_nil
        · rintro _ rfl
          exact ⟨rfl, a, _, rfl, rfl, by omega, by omega⟩
        · rintro _ d rfl hd
          exact hd _ _ rfl
      · rintro _ _ rfl ⟨r, rfl, r0, r1⟩
        have hi : r.toNat < z.cps.toList.length := by omega
        refine ⟨.str ⟨#[z.cps.toList[r.toNat]]⟩, ⟨_, List.getElem_mem hi, rfl⟩, rj_ix_str (by omega) ?_⟩
        have e : r = (r.toNat : Int) := by omega
        exact atI_of e (List.getElem?_eq_getElem hi)
    · exact fun d hd => .inl ⟨d, rfl, ⟨fun a' l' e => (by cases e), fun a' z e => (by cases e; exact hd)⟩⟩

/-! ### the pots, the cells -/
def noHp : Hp := fun _ => none
theorem noHp_same (H : Hp) : Same noHp H := fun _ _ e => by cases e
/-- the slots at the start of a body that knows nothing of the heap -/
theorem wf_start {H : Hp} {σ : L2.St} {δ : Dl} (hP : PotS .none 0 H) (hl : σ.length = δ.length) (h : ∀ (i : Nat) (s : Sl), δ[i]? = some (some s) → ∃ v d, σ[i]? = some (some v) ∧ s = .val d ∧ At K noHp v d) : Wf .none K noHp H noHp H σ δ 0 :=
  ⟨hl, Gd.refl (noHp_same H), hP, fun a e => absurd e fxN, fun i s e => by
    obtain ⟨v, d, h1, rfl, h2⟩ := h i s e
    exact ⟨v, h1, h2⟩, fun i j d e n h1 h2 => by
    obtain ⟨v, d, _, h, _⟩ := h i _ h1
    cases h⟩
def spPot (K : PySem.W.Frag) : Sp := fun vs H Q _ => ∃ (a : Addr) (ns : List Int) (j : Nat), vs = [.ref a, .int (j : Int)] ∧ SqL K H a (ns.map V.int) ∧ ns.length ≤ 63 ∧ j ≤ 63 ∧ PotS .none 0 H ∧ ∀ p H', Same H H' → (OnlyT H → OnlyT H') → H p = none → Pot 0 H' p → Q (.ref p) H'
theorem sum1 (ns : List Int) : (ns.take 1).sum = (ns.take 1).sum := rfl
theorem ok_pot {f : Addr} {fd : FuncData} (F : Fun K "_law_pot" "_law_pot" s__law_pot f fd) (T : Txt K mg) : FnOk P w K mg base CX0 1 f fd ["script", "place"] (spPot K) := by
  refine F.ok sc__law_pot (fun vs H Q E h => ?_) (fun cdv A outer s H vs Q E hr h => ?_)
  · obtain ⟨a, ns, j, rfl, _⟩ := h
    rfl
  obtain ⟨a, ns, j, rfl, hS, hl, hj, hP, q⟩ := h
  refine ⟨_, (pss_cons (ps_set (i := 2) sc__law_pot.nd rfl (by first | exact Or.inl rfl | exact Or.inr rfl) (pe_ifExp (pt_cmpR op_lt (pv 1) (pe_callB call_len_seq (by rfl) T.b_len (by decide +kernel) (pa_cons (pv 0) pa_nil)) (by first | exact nomark _ | rfl)) (pe_ix ix_list (pv 0) (pv 1) (fun _ _ => rfl)) (pe_op op_add (pe_op op_add (pe_op op_mod (pe_callB (cr_sum (by rfl)) (by rfl) T.b_sum (by decide +kernel) (pa_cons (pe_slice sl_list (pv 0) po_none (po_some pe_int)) pa_nil)) pe_int) (pe_op op_mulW pe_int (pv 1))) pe_int)))
 (pss_cons (ps_set (i := 3) sc__law_pot.nd rfl (by first | exact Or.inl rfl | exact Or.inr rfl) (pe_op op_mulW (pe_op op_mod (pe_callTy call_int1 (by rfl) T.b_int (by decide +kernel) (pa_cons (pe_callB call_abs (by rfl) T.b_abs (by decide +kernel) (pa_cons (pv 2) pa_nil)) pa_nil)) (pe_op op_powW (pe_op op_powW pe_int pe_int) pe_int)) (pe_callTy call_int1 (by rfl) T.b_int (by decide +kernel) (pa_cons (pe_cmpR op_ge (pe_callB call_abs (by rfl) T.b_abs (by decide +kernel) (pa_cons (pv 2) pa_nil)) (pe_op op_powW pe_int pe_int) (by first | exact nomark _ | rfl)) pa_nil))))
 (pss_cons (ps_set (i := 4) sc__law_pot.nd rfl (by first | exact Or.inl rfl | exact Or.inr rfl) (pe_op op_mod (pe_callTy call_int1 (by rfl) T.b_int (by decide +kernel) (pa_cons (pv 2) pa_nil)) pe_int))
 (pss_one (ps_ret (pe_lst (pa_cons (pv 3) (pa_cons (pe_op op_mod (pe_callTy call_int1 (by rfl) T.b_int (by decide +kernel) (pa_cons (pe_op op_add (pe_op op_add (pe_op op_mulW (pv 4) pe_int) (pe_op op_mulW (pe_op op_mulW pe_int (pv 1)) (pv 1))) pe_int) pa_nil)) pe_int) (pa_cons pe_int pa_nil))))))))), ?_⟩
  dsimp only [cxOf, Cx.nox, Cx.wish]
  refine asg_intT (fun z H1 s1 o1 => ?_) (fun Q2 q2 => ?_)
  · -- the rest, from any cell
    refine sj_run (ρ := .none) (K := K) (E := E) (k := 9) (PO := fun o => ∃ x y : Int, o = .rt (.lst [.int x, .int y, .int 0]) ∧ 0 ≤ x ∧ x.natAbs < 2 ^ 1100 ∧ 0 ≤ y ∧ y < 2 ^ 62) ?_ (wf_start (H := H1) ⟨hP.tabs.ext s1, o1 hP.only, fun _ e => nomatch e⟩ (δ := [none, some (.val (.int (j : Int))), some (.val (.int z)), none, none]) rfl (fun i s e => ?_)) (by decide) (fun o po => ?_)
    · apply sj_le
      · apply sj_set (P := fun d => ∃ x : Int, d = .int x ∧ 0 ≤ x ∧ x.natAbs < 2 ^ 1100)
        · apply ej_op (P1 := fun d => ∃ x : Int, d = .int x ∧ 0 ≤ x ∧ x < 10 ^ 300) (P2 := fun d => d = .int 1 ∨ d = .int 0)
          · apply ej_modE
            · walk_at "ed"
            · exact ed_op (ed_op ed_int ed_int (rj_I ⟨by decide, by decide +kernel⟩)) ed_int (rj_I ⟨by decide, by decide +kernel⟩)
            · decide +kernel
          · intro _ _
            apply ej_cb (PA := fun ds => ∃ b, ds = [.bl b])
            · apply ea_cons (P1 := fun d => ∃ b, d = .bl b) (PR := (· = []))
              · apply ej_ex
                · exact ed_op (ed_cb (eda_cons (ed_var rfl) eda_nil) cj_abs) (ed_op ed_int ed_int (rj_I ⟨by decide, by decide +kernel⟩)) rj_B0
                · exact ⟨_, rfl⟩
              · intro _ _
                exact eda_nil
              · rintro _ _ ⟨b, rfl⟩ rfl
                exact ⟨b, rfl⟩
            · rintro _ ⟨b, rfl⟩
              exact ⟨_, (by cases b <;> simp), cj_intB⟩
          · rintro _ _ ⟨x, rfl, x0, x1⟩ he
            have hb : x.natAbs < 2 ^ 1000 := by
              have h2 : (10 : Int) ^ 300 ≤ 2 ^ 1000 := by decide +kernel
              have h3 : (x.natAbs : Int) < 2 ^ 1000 := by omega
              exact_mod_cast h3
            rcases he with rfl | rfl
            · refine ⟨_, ⟨x * 1, rfl, by omega, ?_⟩, rj_I (wide_mul (a := 1000) (b := 10) hb (by decide) (by decide) (by decide) (by decide))⟩
              rw [Int.mul_one]
              exact Nat.lt_trans hb (Nat.pow_lt_pow_right (by decide) (by decide))
            · refine ⟨_, ⟨x * 0, rfl, by omega, ?_⟩, rj_I (wide_mul (a := 1000) (b := 10) hb (by decide) (by decide) (by decide) (by decide))⟩
              rw [Int.mul_zero]
              exact Nat.two_pow_pos _
        rintro _ ⟨x, rfl, x0, x1⟩
        apply sj_set
        · apply ej_modE
          walk_at "ed"
          walk_at "ed"
          decide
        rintro _ ⟨sm, rfl, s0, s1'⟩
        have hjj : (j : Int) ≤ 63 := by omega
        apply sj_retP (P := fun d => ∃ y : Int, d = .lst [.int x, .int y, .int 0] ∧ 0 ≤ y ∧ y < 2 ^ 62)
        · apply ej_lst (PA := fun ds => ∃ y : Int, ds = [.int x, .int y, .int 0] ∧ 0 ≤ y ∧ y < 2 ^ 62)
          · apply ea_cons (P1 := (· = .int x)) (PR := fun ds => ∃ y : Int, ds = [.int y, .int 0] ∧ 0 ≤ y ∧ y < 2 ^ 62)
            · walk_at "ed"
            · intro _ _
              apply ea_cons (PR := (· = [.int 0]))
              · apply ej_modE
                walk_at "ed"
                walk_at "ed"
                decide
              · intro _ _
                walk_at "eda"
              · rintro _ _ ⟨y, rfl, y0, y1⟩ rfl
                exact ⟨y, rfl, y0, by omega⟩
            · rintro _ _ rfl ⟨y, rfl, y0, y1⟩
              exact ⟨y, rfl, y0, y1⟩
          · rintro _ ⟨y, rfl, _⟩
            show 3 ≤ 1000000
            decide
          · rintro _ ⟨y, rfl, y0, y1⟩
            exact ⟨y, rfl, y0, y1⟩
        · rintro _ ⟨y, rfl, y0, y1⟩
          exact ⟨x, y, rfl, x0, x1, y0, y1⟩
      · decide
    · match i, e with
      | 0, e => cases e
      | 1, e => cases e; exact ⟨_, _, rfl, rfl, .int _⟩
      | 2, e => cases e; exact ⟨_, _, rfl, rfl, .int _⟩
      | 3, e => cases e
      | 4, e => cases e
      | n + 5, e => simp at e
    · obtain ⟨x, y, rfl, x0, x1, y0, y1⟩ := po
      intro v G' H' m' g p l hv
      cases hv with
      | @lst p xs _ hp hl =>
        cases hl with
        | cons h1 hl =>
        cases hl with
        | cons h2 hl =>
        cases hl with
        | cons h3 hl =>
        cases hl
        cases h1
        cases h2
        cases h3
        have hn : H1 p = none := by
          rcases g.new p (ne_none_of hp) with z | z
          · exact absurd rfl z
          · exact z
        exact q p H' (s1.trans fun b o e => g.keep b o fxN e) (fun h => g.ot (o1 h)) (s1.free hn) ⟨x, y, 0, g.sub _ _ hp, ⟨x0, x1, y0, y1, by omega, by omega⟩⟩
  · refine ⟨_, rfl, _, rfl, a, _, rfl, .inl hS, _, _, rfl, rfl, _, rfl, ite2 (fun h => ?_) (fun h => ?_)⟩
    · have hj2 : j < ns.length := by
        have := of_decide_eq_true h
        rw [List.length_map] at this
        omega
      refine ⟨_, rfl, _, rfl, a, _, (j : Int), .int ns[j], rfl, rfl, hS, atI_nat (by rw [List.getElem?_map, List.getElem?_eq_getElem hj2]; rfl), q2 _ H (Same.refl _) id⟩
    · refine ⟨_, rfl, 1, rfl, a, _, rfl, hS, fun p hp => ?_⟩
      have sm := same_new (o := HO.lst (cutV (ns.map V.int) none (some 1))) hp
      refine ⟨p, _, rfl, .inl (.inl (upd_same.trans (congrArg (fun x => some (HO.lst x)) (cutV_map V.int ns none (some 1))))), ?_⟩
      · refine ⟨_, _, rfl, rfl, (by show (0 : Int) < 1000003; decide), _, rfl, _, _, rfl, rfl, wide_mul (a := 60) (b := 60) (by decide) (by omega) (by decide) (by decide) (by decide), _, _, rfl, rfl, _, _, rfl, rfl, q2 _ _ sm fun h => h.upd (by (intro _ z; cases z))⟩

def spCells (K : PySem.W.Frag) : Sp := fun vs H Q _ => ∃ (a : Addr) (ns : List Int) (most : Nat), vs = [.ref a, .int (most : Int)] ∧ SqL K H a (ns.map V.int) ∧ ns.length ≤ 63 ∧ 1 ≤ most ∧ most ≤ 63 ∧
  ∀ p (n : Nat) H', 1 ≤ n → n ≤ most → Same H H' → (OnlyT H → OnlyT H') → H p = none → H' p = some (.lst ((List.range n).map fun (i : Nat) => V.int (i : Int))) → Q (.ref p) H'
theorem ok_cells {f : Addr} {fd : FuncData} (F : Fun K "_law_cells" "_law_cells" s__law_cells f fd) (T : Txt K mg) : FnOk P w K mg base CX0 1 f fd ["script", "most"] (spCells K) := by
  refine F.ok sc__law_cells (fun vs H Q E h => ?_) (fun cdv A outer s H vs Q E hr h => ?_)
  · obtain ⟨a, ns, j, rfl, _⟩ := h
    rfl
  obtain ⟨a, ns, most, rfl, hS, hl, h1, h63, q⟩ := h
  refine ⟨_, (pss_one (ps_ret (pe_listRg (by rfl) (by rfl) T.b_list (prg_1 (by rfl) T.b_range (pe_callB (call_max2 (by rfl)) (by rfl) T.b_max (by decide +kernel) (pa_cons pe_int (pa_cons (pe_callB (call_min2 (by rfl)) (by rfl) T.b_min (by decide +kernel) (pa_cons (pv 1) (pa_cons (pe_callB call_len_seq (by rfl) T.b_len (by decide +kernel) (pa_cons (pv 0) pa_nil)) pa_nil))) pa_nil))))))), ?_⟩
  refine ⟨_, rfl, _, rfl, a, _, rfl, .inl hS, most, _, rfl, 1, _, rfl, _, rfl, ?_⟩
  rw [List.length_map]
  obtain ⟨n, hn, n1, n2⟩ : ∃ n : Nat, (if (if ((ns.length : Nat) : Int) < (most : Int) then ((ns.length : Nat) : Int) else (most : Int)) > 1 then (if ((ns.length : Nat) : Int) < (most : Int) then ((ns.length : Nat) : Int) else (most : Int)) else 1) = (n : Int) ∧ 1 ≤ n ∧ n ≤ most := by
    refine ⟨max 1 (min ns.length most), ?_, by omega, by omega⟩
    split <;> split <;> omega
  rw [hn]
  refine ⟨RgOk.of_le (by omega) (by omega) (by omega) (by omega), fun p hp => ?_⟩
  refine q p n _ n1 n2 (same_new hp) (fun h => h.upd (by (intro _ z; cases z))) hp ?_
  rw [upd_same]
  unfold rgV
  rw [show ((n : Int) - 0).toNat = n by omega]
  refine congrArg (fun x => some (HO.lst x)) (List.map_congr_left fun x _ => ?_)
  simp
end
/-! ### the law itself: over cells, of each its pot -/
section
variable {K : PySem.W.Frag} {δ : Dl} {ta tb te : TE}
theorem ej_potcall {c j : Nat} {ns : List Int} {pre : Rh → List D → Prop} {post : List D → D → Prop} {P : D → Prop} {E1 E2 : XK} (ha : ED .law K ta δ (.scr ns)) (hb : ED .law K tb δ (.int (j : Int))) (hl : ns.length ≤ 63) (hj : j ≤ 63) (hc : c ≤ Mx)
    (hpre : ∀ p, pre (.some p) [.opq (.ref p)]) (hpost : ∀ p d, post [.opq (.ref p)] d → P d) :
    EJ .law K (tCall (spJ K 1 pre c post) [] E1 (tCons (tCall (spPot K) [] E2 (tCons ta (tCons tb tNil))) tNil)) δ 0 P := .mk fun G0 H0 G H σ m Q w hm q =>
  ha.run G0 H0 G H σ m _ w hm fun d v G1 H1 m1 pd w1 g1 l1 x => hb.run G0 H0 G1 H1 σ m1 _ w1 (by omega) fun d2 v2 G2 H2 m2 pd2 w2 g2 l2 x2 => by
    subst pd pd2
    cases x2
    have x' := x.mono g2.gg
    cases x' with
    | @scr a _ hS =>
      refine ⟨a, ns, j, rfl, Same.sqL w2.gd.sub hS, hl, hj, w2.pot.off, fun p H3 hs hot hp hpot => ?_⟩
      have gp : G2 p = none := w2.gd.sub.free hp
      refine ⟨.some p, G2, [.opq (.ref p)], 0, .cons (.opq _) .nil, rfl, w2.gd.sub.trans hs, ⟨w2.pot.tabs.ext hs, hot w2.pot.only, fun a e => by cases e; exact hpot⟩, fun a e => e.elim (fun e => by cases e; exact gp) (fun e => w2.gnone (mv_law.mpr e.2)), by omega, hpre p, fun d v G4 H4 m4 pd g4 p4 l4 av => ?_⟩
      have g5 : Gd .law G2 H2 G4 H4 := ⟨fun b o n e => g4.keep b o (fun z => z.elim (fun z => by cases z; rw [hp] at e; cases e) (fun z => n (mv_law.mpr z.2))) (hs _ _ e), g4.gg, g4.sub, (fun b e => by
        rcases g4.new b e with y | y
        · exact .inl y
        · exact .inr (hs.free y)), fun h => g4.ot (hot h)⟩
      exact q d v G4 H4 m2 (hpost p d pd) (w2.step g5 p4.law) (Gd.trans w2.pot (Gd.trans w1.pot g1 g2) g5) (by omega) av
theorem ij_cells {most : Nat} {ns : List Int} {E1 : XK} (ha : ED .law K ta δ (.scr ns)) (hb : ED .law K tb δ (.int (most : Int))) (hl : ns.length ≤ 63) (h1 : 1 ≤ most) (h2 : most ≤ 63) :
    IJ .law K (iList K (tCall (spCells K) [] E1 (tCons ta (tCons tb tNil)))) δ 0 (fun ds => ∃ n : Nat, n ≤ most ∧ ds = (List.range n).map fun (i : Nat) => D.int (i : Int)) := .mk fun G0 H0 G H σ m R w hm q => by
  refine (ij_listP (ρ := .law) (k := 0) (PL := fun ds => ∃ n : Nat, n ≤ most ∧ ds = (List.range n).map fun (i : Nat) => D.int (i : Int)) ?_).run G0 H0 G H σ m R w hm q
  refine .mk fun G0 H0 G H σ m Q w hm q => ?_
  refine ha.run G0 H0 G H σ m _ w hm fun d v G1 H1 m1 pd w1 g1 l1 x => hb.run G0 H0 G1 H1 σ m1 _ w1 (by omega) fun d2 v2 G2 H2 m2 pd2 w2 g2 l2 x2 => ?_
  subst pd pd2
  cases x2
  have x' := x.mono g2.gg
  cases x' with
  | @scr a _ hS =>
    refine ⟨a, ns, most, rfl, Same.sqL w2.gd.sub hS, hl, h1, h2, fun p n H3 n1 n2 hs hot hp h3 => ?_⟩
    have gp : G2 p = none := w2.gd.sub.free hp
    have gg := same_new (o := HO.lst ((List.range n).map fun (i : Nat) => V.int (i : Int))) gp
    have g5 : Gd .law G2 H2 (upd G2 p (.lst ((List.range n).map fun (i : Nat) => V.int (i : Int)))) H3 := ⟨fun b o _ e => hs _ _ e, gg, fun b u e => by
      by_cases z : b = p
      · subst z; rw [upd_same] at e; rw [h3]; exact e
      · rw [upd_ne z] at e; exact hs _ _ (w2.gd.sub _ _ e), fun b e => by
      by_cases z : b = p
      · subst z; exact .inr hp
      · rw [upd_ne z] at e; exact .inl e, hot⟩
    have p5 : PotS .law m2 H3 := ⟨w2.pot.tabs.ext hs, hot w2.pot.only, fun _ e => nomatch e⟩
    refine q _ (.ref p) _ H3 m2 ⟨_, rfl, n, n2, rfl⟩ (w2.step g5 p5) (Gd.trans w2.pot (Gd.trans w1.pot g1 g2) g5) (by omega) (.lst upd_same ?_)
    have := atL_ints (K := K) (G := upd G2 p (.lst ((List.range n).map fun (i : Nat) => V.int (i : Int)))) ((List.range n).map fun (i : Nat) => (i : Int))
    rw [List.map_map, List.map_map] at this
    exact this
/-- all([right(pot(script, place)) for place in cells(script, most)]) is true -/
theorem sj_law {c most : Nat} {ns : List Int} {pre : Rh → List D → Prop} {post : List D → D → Prop} {E1 E2 E3 E : XK} {L vs : List Nat} {g : TG} {δt : D → Dl} (hl : ns.length ≤ 63) (h1 : 1 ≤ most) (h2 : most ≤ 63) (hc : c ≤ Mx) (ha : ED .law K ta δ (.scr ns)) (hb : ED .law K tb δ (.int (most : Int)))
    (hL : ∀ i ∈ L, i ∈ vs) (hg : ∀ d, GJ .law K g L d (wipeD δ vs) (δt d)) {tc td : TE} (hc' : ∀ d, ED .law K tc (δt d) (.scr ns)) (hd : ∀ d, ED .law K td (δt d) d)
    (hpre : ∀ p, pre (.some p) [.opq (.ref p)]) (hpost : ∀ p d, post [.opq (.ref p)] d → d = .bl true) :
    SJ .law K E (tRet (tCB (rAll K) (tCons (tLc (iList K (tCall (spCells K) [] E1 (tCons ta (tCons tb tNil)))) g tYes (tCall (spJ K 1 pre c post) [] E2 (tCons (tCall (spPot K) [] E3 (tCons tc (tCons td tNil))) tNil)) vs) tNil))) δ (0 + 63 * 0 + 0) (· = .rt (.bl true)) := by
  apply sj_retP (P := (· = .bl true))
  · apply ej_cb (PA := fun ds => ∃ bs : List Bool, ds = [.lst (bs.map D.bl)] ∧ bs.all id = true)
    · apply ea_cons (P1 := fun d => ∃ bs : List Bool, d = .lst (bs.map D.bl) ∧ bs.all id = true) (PR := (· = []))
      · refine EN.ej ((en_lc (p := fun _ => true) (R := fun _ r => r = .bl true) (N := 63) (ke := 0) (ij_cells ha hb hl h1 h2) (fun ds h => ?_) hL (by decide) (fun ds d h hd => hg d) (fun ds d h hd => eb_yes) (fun ds d h hm _ => ?_)).mono (Nat.le_refl _) fun r h => ?_)
        · obtain ⟨n, hn, rfl⟩ := h
          rw [List.length_map, List.length_range]; omega
        · obtain ⟨n, hn, rfl⟩ := h
          obtain ⟨j, hj, rfl⟩ := List.mem_map.mp hm
          have := List.mem_range.mp hj
          exact ej_potcall (hc' _) (hd _) hl (by omega) hc hpre hpost
        · obtain ⟨ds, rs, rfl, _, hall⟩ := h
          have hr : ∀ {as bs : List D}, All2 (fun _ r => r = D.bl true) as bs → ∃ l : List Bool, bs = l.map D.bl ∧ l.all id = true := by
            intro as bs h
            induction h with
            | nil => exact ⟨[], rfl, rfl⟩
            | cons h _ ih =>
              obtain ⟨l, rfl, e⟩ := ih
              exact ⟨true :: l, by rw [h]; rfl, by simpa using e⟩
          obtain ⟨l, rfl, e⟩ := hr hall
          exact ⟨l, rfl, e⟩
      · intro _ _
        exact eda_nil
      · rintro _ _ ⟨bs, rfl, e⟩ rfl
        exact ⟨bs, rfl, e⟩
    · rintro _ ⟨bs, rfl, e⟩
      exact ⟨_, congrArg D.bl e, cj_all⟩
  · intro d e
    rw [e]
end
/-- the slots of the law: the script -/
theorem wf_script {K : PySem.W.Frag} {H : Hp} {a : Addr} {ns : List Int} {σ : L2.St} {δ : Dl} (hP : PotS .law 0 H) (hS : SqL K H a (ns.map V.int)) (hl : σ.length = δ.length) (h0 : σ[0]? = some (some (.ref a))) (h : ∀ (i : Nat) (s : Sl), δ[i]? = some (some s) → i = 0 ∧ s = .val (.scr ns)) : Wf .law K (noTab H) H (noTab H) H σ δ 0 :=
  ⟨hl, Gd.refl fun b o e => (noTab_of e).1, hP, fun b e => ⟨hP.ne e, by
    obtain ⟨ps, z⟩ := tabs_ta hP.tabs (mv_law.mp e)
    unfold noTab
    rw [z]⟩, fun i s e => by
    obtain ⟨rfl, rfl⟩ := h i s e
    exact ⟨_, h0, .scr (hS.imp (fun h => rd_noTab h (by (intro _ z; cases z))) id)⟩, fun i j d e n h1 h2 => by
    obtain ⟨rfl, h⟩ := h i _ h1
    cases h⟩
end DN

namespace DN
open PySem PySem.Spec PyProof.Rows L2
variable [Tb]
abbrev s__law_some : Stmt := topS 44
theorem sc__law_some : FnScope ["pot", "pool", "many", "left", "found", "lap"] ["pot", "pool", "many"] (defScope s__law_some) := ⟨rfl, rfl, rfl, by decide +kernel, rfl, by decide +kernel, by decide +kernel⟩
abbrev s__law_names : Stmt := topS 46
theorem sc__law_names : FnScope ["pot", "many", "signs", "words", "found", "known", "lap", "one", "name", "place", "rest", "other"] ["pot", "many"] (defScope s__law_names) := ⟨rfl, rfl, rfl, by decide +kernel, rfl, by decide +kernel, by decide +kernel⟩
abbrev s__law_links : Stmt := topS 47
theorem sc__law_links : FnScope ["pot", "names", "goal", "many", "window", "pairs", "found", "at", "name", "lap", "one", "other", "others", "often"] ["pot", "names", "goal", "many", "window"] (defScope s__law_links) := ⟨rfl, rfl, rfl, by decide +kernel, rfl, by decide +kernel, by decide +kernel⟩
abbrev s__law_way_home : Stmt := topS 48
theorem sc__law_way_home : FnScope ["own", "left", "name", "roads", "level", "later", "here", "at", "link"] ["own", "left", "name"] (defScope s__law_way_home) := ⟨rfl, rfl, rfl, by decide +kernel, rfl, by decide +kernel, by decide +kernel⟩
abbrev s__law_filled : Stmt := topS 49
theorem sc__law_filled : FnScope ["pot", "own", "most", "left", "puts", "lap", "found", "name", "way", "least", "many", "at", "level", "put", "link"] ["pot", "own", "most"] (defScope s__law_filled) := ⟨rfl, rfl, rfl, by decide +kernel, rfl, by decide +kernel, by decide +kernel⟩
abbrev s__law_book : Stmt := topS 50
theorem sc__law_book : FnScope ["pot", "stations", "links", "window", "many", "wide", "names", "found", "name"] ["pot", "stations", "links", "window"] (defScope s__law_book) := ⟨rfl, rfl, rfl, by decide +kernel, rfl, by decide +kernel, by decide +kernel⟩
abbrev s__law_flow_book : Stmt := topS 51
theorem sc__law_flow_book : FnScope ["pot", "stations", "links", "window"] ["pot", "stations", "links", "window"] (defScope s__law_flow_book) := ⟨rfl, rfl, rfl, by decide +kernel, rfl, by decide +kernel, by decide +kernel⟩
abbrev s__law_any_book : Stmt := topS 52
theorem sc__law_any_book : FnScope ["pot", "stations", "links", "window", "own", "way", "at", "name", "level", "put", "one", "height", "its", "link"] ["pot", "stations", "links", "window"] (defScope s__law_any_book) := ⟨rfl, rfl, rfl, by decide +kernel, rfl, by decide +kernel, by decide +kernel⟩
abbrev s__law_book_text : Stmt := topS 53
theorem sc__law_book_text : FnScope ["own", "rows", "name", "level", "put", "link"] ["own"] (defScope s__law_book_text) := ⟨rfl, rfl, rfl, by decide +kernel, rfl, by decide +kernel, by decide +kernel⟩
theorem ex_k {ρ : Rh} {K : PySem.W.Frag} {E : XK} {ts : TS} {δ : Dl} {k c : Nat} {PO : Out → Prop} (h : SJ ρ K E ts δ k PO) (hk : k ≤ c) : ∃ k, k ≤ c ∧ SJ ρ K E ts δ k PO := ⟨k, hk, h⟩
theorem erase_perm {α : Type} : ∀ {l : List α} {n : Nat} (h : n < l.length), (l[n] :: l.eraseIdx n).Perm l
  | x :: r, 0, h => by simp
  | x :: r, n + 1, h => by
    have ih := erase_perm (l := r) (n := n) (by simpa using h)
    simp only [List.getElem_cons_succ, List.eraseIdx_cons_succ]
    exact (List.Perm.swap x _ _).trans (ih.cons x)
section
variable {P : Program} {w : World} {K : PySem.W.Frag} {mg : Str → Option Value} {base : Heap}
/-- some of a pool, each place once -/
def preSome (ρ : Rh) (ds : List D) : Prop := ∃ (a : Addr) (l : List D) (n : Nat), ds = [.opq (.ref a), .lst l, .int (n : Int)] ∧ ρ = .some a ∧ n ≤ l.length ∧ l.length < 1000
def postSome (ds : List D) (d : D) : Prop := ∀ a l (n : Nat), ds = [.opq a, .lst l, .int (n : Int)] → ∃ rs rest, d = .lst rs ∧ rs.length = n ∧ (rs ++ rest).Perm l
abbrev spSome (K : PySem.W.Frag) (c : Nat) : Sp := spJ K 3 preSome c postSome
theorem ok_some {f : Addr} {fd : FuncData} (F : Fun K "_law_some" "_law_some" s__law_some f fd) (T : Txt K mg) (c__law_take : C8.Cal P w K mg base 1 "_law_take" (spTake K) []) : FnOk P w K mg base CX0 2 f fd ["pot", "pool", "many"] (spSome K 1000) := by
  refine F.ok sc__law_some (fun vs H Q E h => spJ_len h) (fun cdv A outer s H vs Q E hr h => ?_)
  refine ⟨_, (pss_cons (ps_par (i := 3) (j := 4) (by rfl) sc__law_some.nd rfl rfl (by decide) rfl rfl (pa_cons (pe_callTy call_list_of (by rfl) T.b_list (by decide +kernel) (pa_cons (pv 1) pa_nil)) (pa_cons (pe_lst pa_nil) pa_nil)) (by rfl))
 (pss_cons (ps_for PassesOwn.never rfl (pi_range1 (by rfl) T.b_range (pa_cons (pv 2) pa_nil)) (pg_name (i := 5) sc__law_some.nd rfl (by first | exact Or.inl rfl | exact Or.inr rfl))
  (pss_one (ps_expr (pe_bm PySem.F.plainAttrs_list PySem.F.slot_list_append PySem.F.type_list_append mt_append (pv 4) (pa_cons (pe_bm PySem.F.plainAttrs_list PySem.F.slot_list_pop PySem.F.type_list_pop mt_popAt (pv 3) (pa_cons (C8.pe_c c__law_take hr (by omega) (by rfl) (pa_cons (pv 0) (pa_cons (pe_callB call_len_seq (by rfl) T.b_len (by decide +kernel) (pa_cons (pv 3) pa_nil)) pa_nil))) pa_nil)) pa_nil)))))
 (pss_one (ps_ret (pv 4))))), body_of (n := 3) (fun ρ ds hl hp => ?_) h⟩
  obtain ⟨a, l, n, rfl, rfl, hn, hl2⟩ := hp
  apply ex_k
  · apply sj_parOO (i := 3) (j := 4) (by decide)
    · exact en_list (eda_cons (ed_var rfl) eda_nil)
    · exact en_nil
    rintro _ _ rfl rfl
    apply sj_for (Inv := fun _ t δ' => ∃ ls rs, δ' = [some (.val (.opq (.ref a))), some (.val (.lst l)), some (.val (.int (n : Int))), some (.own (.lst ls)), some (.own (.lst rs)), none] ∧ rs.length = t ∧ (rs ++ ls).Perm l) (Br := fun _ => False) (N := 1000)
    · exact ij_range1 (ed_var rfl) ⟨by omega, by omega⟩
    · rintro _ rfl
      rw [List.length_map, List.length_range]; omega
    · rintro _ rfl
      exact ⟨l, [], rfl, rfl, by simp⟩
    · rintro _ t d _ rfl hd ⟨ls, rs, rfl, hrs, hp⟩
      have ht : t < n := by
        have := (List.getElem?_eq_some_iff.mp hd).1
        rw [List.length_map, List.length_range] at this; omega
      have hlen : rs.length + ls.length = l.length := by rw [← List.length_append]; exact hp.length_eq
      refine ⟨_, gj_name, ?_⟩
      apply sj_last
      apply sj_popApp (ls := ls) (fs := rs) rfl rfl (by decide)
      · apply ej_call (PA := (· = [.opq (.ref a), .int (ls.length : Nat)]))
        · apply eda_cons
          · exact ed_var rfl
          apply eda_cons
          · apply ej_peek 3 rfl
            · exact ed_cb (eda_cons (ed_var rfl) eda_nil) cj_len
            · rintro _ rfl
              rfl
          exact eda_nil
        · rintro _ rfl
          exact ⟨rfl, a, _, rfl, rfl, by omega, by omega⟩
        · rintro _ d rfl hd
          obtain ⟨r, rfl, r0, r1⟩ := hd _ _ rfl
          exact ⟨r.toNat, by congr 1; omega, by omega⟩
      · omega
      · omega
      · intro m x hx
        refine sj_nextW (δ' := [some (.val (.opq (.ref a))), some (.val (.lst l)), some (.val (.int (n : Int))), some (.own (.lst (ls.eraseIdx m))), some (.own (.lst (rs ++ [x]))), none]) (.keep (.keep (.keep (.keep (.keep (.drop .nil)))))) ?_
        refine ⟨ls.eraseIdx m, rs ++ [x], rfl, by rw [List.length_append, hrs]; rfl, ?_⟩
        refine List.Perm.trans ?_ hp
        rw [List.append_assoc]
        refine List.Perm.append_left rs ?_
        obtain ⟨hm, rfl⟩ := List.getElem?_eq_some_iff.mp hx
        exact erase_perm hm
    · rintro _ _ rfl (⟨ls, rs, rfl, hrs, hp⟩ | z)
      rotate_left
      · exact z.elim
      apply sj_frz 4 rfl
      apply sj_retP
      · exact ed_var rfl
      rintro _ rfl
      refine .inl ⟨_, rfl, fun a' l' n' e => ?_⟩
      cases e
      refine ⟨rs, ls, rfl, ?_, hp⟩
      rw [hrs, List.length_map, List.length_range]; omega
  · decide
end
end DN

namespace DN
open PySem PySem.Spec PyProof.Rows L2
variable [Tb]
theorem str_app (x y : Str) : (x ++ y).cps.toList = x.cps.toList ++ y.cps.toList := by
  show (x.cps ++ y.cps).toList = _
  simp
theorem str_len (x : Str) : x.length = x.cps.toList.length := by show x.cps.size = _; simp
theorem str_ext {x y : Str} (h : x.cps.toList = y.cps.toList) : x = y := by
  cases x; cases y
  congr 1
  exact Array.toList_inj.mp h
theorem str_lenA (x y : Str) : (x ++ y).length = x.length + y.length := by rw [str_len, str_app, List.length_append, ← str_len, ← str_len]
def letters (z : Str) : Prop := ∀ c ∈ z.cps.toList, 97 ≤ c ∧ c ≤ 122
structure isN (z : Str) : Prop where
  lo : 1 ≤ z.length
  hi : z.length ≤ 8
  lt : letters z
theorem letters.app {x y : Str} (h : letters x) (h' : letters y) : letters (x ++ y) := fun c hc => by
  rw [str_app, List.mem_append] at hc
  exact hc.elim (h c) (h' c)
def chrS (z : Str) : List Str := z.cps.toList.map fun c => ⟨#[c]⟩
theorem chrD_S (z : Str) : chrD z = (chrS z).map D.str := by unfold chrD chrS; rw [List.map_map]; rfl
def knownD (ns : List Str) : List (Key × D) := ns.map fun z => (.inr z, .bl true)
theorem known_has : ∀ {ns : List Str} {z : Str}, (getD' (knownD ns) (.inr z)).isSome = decide (z ∈ ns)
  | [], z => by simp [knownD, getD']
  | y :: r, z => by
    have ih := known_has (ns := r) (z := z)
    by_cases h : y = z
    · subst h; simp [knownD, getD']
    · have e : getD' (knownD (y :: r)) (.inr z) = getD' (knownD r) (.inr z) := by simp [knownD, getD', h]
      rw [e, ih]
      have h' : z ≠ y := fun e => h e.symm
      simp [h']
theorem known_put {ns : List Str} {z : Str} (h : z ∉ ns) : putD (knownD ns) (.inr z) (.bl true) = knownD (ns ++ [z]) := by
  have e : (knownD ns).any (fun e => decide (e.1 = Sum.inr z)) = false := by
    rw [List.any_eq_false]
    intro x hx
    obtain ⟨y, hy, rfl⟩ := List.mem_map.mp hx
    simp
    intro e
    exact h (by rw [← e]; exact hy)
  unfold putD
  rw [e]
  simp [knownD]
theorem cut_to {ds : List D} {h : Int} (h0 : 0 ≤ h) : cutD ds none (some h) = ds.take h.toNat := by
  unfold cutD HT.sIx
  simp only
  rw [if_neg (by omega), List.drop_zero, Nat.sub_zero]
  by_cases z : h.toNat ≤ ds.length
  · rw [Nat.min_eq_left z]
  · rw [Nat.min_eq_right (by omega), List.take_of_length_le (Nat.le_refl _), List.take_of_length_le (by omega)]
/-- the names that begin with one, of the letters, which are not known -/
def restS (ns : List Str) (one sg : Str) : List Str := ((chrS sg).filter fun y => !decide (one ++ y ∈ ns)).map fun y => one ++ y
theorem inj_app {one x y : Str} (h : one ++ x = one ++ y) : x = y := by
  refine str_ext ?_
  have := congrArg (fun z : Str => z.cps.toList) h
  simp only [str_app] at this
  exact List.append_cancel_left this
theorem nodup_map {α β : Type} {f : α → β} {l : List α} (h : l.Nodup) (hf : ∀ a b, f a = f b → a = b) : (l.map f).Nodup :=
  List.Pairwise.map f (fun a b n e => n (hf a b e)) h
abbrev abc : Str := "abcdefghijklmnopqrstuvwxyz"
theorem abc_nodup : (chrS abc).Nodup := by decide +kernel
theorem abc_len : (chrS abc).length = 26 := by decide +kernel
theorem abc_let : letters abc := by unfold letters; decide +kernel
theorem rest_nodup {ns : List Str} {one : Str} : (restS ns one abc).Nodup := nodup_map (abc_nodup.filter _) fun a b e => inj_app e
theorem rest_notin {ns : List Str} {one z : Str} (h : z ∈ restS ns one abc) : z ∉ ns := by
  obtain ⟨y, hy, rfl⟩ := List.mem_map.mp h
  have := (List.mem_filter.mp hy).2
  simpa using this
theorem filt_len {α : Type} (p : α → Bool) : ∀ l : List α, l.length = (l.filter p).length + (l.filter fun x => !p x).length
  | [] => rfl
  | x :: r => by
    have ih := filt_len p r
    cases h : p x with
    | true => simp [h]; omega
    | false => simp [h]; omega
theorem ej_le {ρ : Rh} {K : PySem.W.Frag} {te : TE} {δ : Dl} {k k' : Nat} {P : D → Prop} (h : EJ ρ K te δ k P) (hk : k ≤ k') : EJ ρ K te δ k' P := h.mono hk fun _ p => p
theorem rest_len {ns : List Str} {one : Str} : 26 ≤ (restS ns one abc).length + ns.length := by
  unfold restS
  rw [List.length_map]
  have h1 := filt_len (fun y => !decide (one ++ y ∈ ns)) (chrS abc)
  rw [abc_len] at h1
  have h2 : (((chrS abc).filter fun y => !!decide (one ++ y ∈ ns)).map fun y => one ++ y).length ≤ ns.length := by
    refine List.Nodup.length_le_of_subset (nodup_map (abc_nodup.filter _) fun a b e => inj_app e) fun z hz => ?_
    obtain ⟨y, hy, rfl⟩ := List.mem_map.mp hz
    have := (List.mem_filter.mp hy).2
    simpa using this
  rw [List.length_map] at h2
  omega
theorem rest_isN {ns : List Str} {one z : Str} (h1 : one.length = 1) (hl : letters one) (h : z ∈ restS ns one abc) : isN z := by
  obtain ⟨y, hy, rfl⟩ := List.mem_map.mp h
  obtain ⟨c, hc, rfl⟩ := List.mem_map.mp (List.mem_filter.mp hy).1
  have hy1 : (⟨#[c]⟩ : Str).length = 1 := rfl
  refine ⟨by rw [str_lenA, h1, hy1]; omega, by rw [str_lenA, h1, hy1]; omega, hl.app fun x hx => ?_⟩
  have : x = c := by simpa using hx
  subst this
  exact abc_let x hc
section
variable {P : Program} {w : World} {K : PySem.W.Frag} {mg : Str → Option Value} {base : Heap}
def preNames (ρ : Rh) (ds : List D) : Prop := ∃ (a : Addr) (n : Nat), ds = [.opq (.ref a), .int (n : Int)] ∧ ρ = .some a ∧ 1 ≤ n ∧ n ≤ 26
structure GoodNs (n : Nat) (ns : List Str) : Prop where
  le : ns.length ≤ n
  nd : ns.Nodup
  ok : ∀ z ∈ ns, isN z
def postNames (ds : List D) (d : D) : Prop := ∀ a (n : Nat), ds = [.opq a, .int (n : Int)] → ∃ ns : List Str, d = .lst (ns.map D.str) ∧ ns.length = n ∧ GoodNs n ns
abbrev spNames (K : PySem.W.Frag) (c : Nat) : Sp := spJ K 2 preNames c postNames
abbrev wordsL : List Str := ["net", "goal", "station", "link", "home", "zzzzzzzz"]
theorem words_isN : ∀ z ∈ wordsL, isN z := by
  intro z hz
  have h : ∀ z ∈ wordsL, 1 ≤ z.length ∧ z.length ≤ 8 ∧ ∀ c ∈ z.cps.toList, 97 ≤ c ∧ c ≤ 122 := by decide +kernel
  obtain ⟨h1, h2, h3⟩ := h z hz
  exact ⟨h1, h2, h3⟩
theorem ok_names {f : Addr} {fd : FuncData} (F : Fun K "_law_names" "_law_names" s__law_names f fd) (T : Txt K mg) (c__law_take : C8.Cal P w K mg base 1 "_law_take" (spTake K) []) (c__law_of : C8.Cal P w K mg base 2 "_law_of" (spOf K) []) : FnOk P w K mg base CX0 3 f fd ["pot", "many"] (spNames K 1000) := by
  refine F.ok sc__law_names (fun vs H Q E h => spJ_len h) (fun cdv A outer s H vs Q E hr h => ?_)
  refine ⟨_, (pss_cons (ps_par (i := 2) (j := 3) (by rfl) sc__law_names.nd rfl rfl (by decide) rfl rfl (pa_cons pe_str (pa_cons (pe_lst (pa_cons pe_str (pa_cons pe_str (pa_cons pe_str (pa_cons pe_str (pa_cons pe_str (pa_cons pe_str pa_nil))))))) pa_nil)) (by rfl))
 (pss_cons (ps_asg (pe_tup (pa_cons (pe_lst pa_nil) (pa_cons pe_dnewK pa_nil))) (pg_tup rfl (pgs_cons (pg_name (i := 4) sc__law_names.nd rfl (by first | exact Or.inl rfl | exact Or.inr rfl)) (pgs_cons (pg_name (i := 5) sc__law_names.nd rfl (by first | exact Or.inl rfl | exact Or.inr rfl)) pgs_nil))))
 (pss_cons (ps_for PassesOwn.never rfl (pi_range1 (by rfl) T.b_range (pa_cons (pe_op op_mulW pe_int (pv 1)) pa_nil)) (pg_name (i := 6) sc__law_names.nd rfl (by first | exact Or.inl rfl | exact Or.inr rfl))
  (pss_cons (ps_set (i := 8) sc__law_names.nd rfl (by first | exact Or.inl rfl | exact Or.inr rfl) (pe_ifExp (pt_cmpR op_eq (C8.pe_c c__law_take hr (by omega) (by rfl) (pa_cons (pv 0) (pa_cons pe_int pa_nil))) pe_int (by first | exact nomark _ | rfl)) (C8.pe_c c__law_of hr (by omega) (by rfl) (pa_cons (pv 0) (pa_cons (pv 3) pa_nil))) pe_str))
 (pss_cons (ps_for PassesOwn.never rfl (pi_range1 (by rfl) T.b_range (pa_cons (pe_ifExp (pt_cmpR op_eq (pv 8) pe_str (by first | exact nomark _ | rfl)) (C8.pe_c c__law_of hr (by omega) (by rfl) (pa_cons (pv 0) (pa_cons (pe_lst (pa_cons pe_int (pa_cons pe_int (pa_cons pe_int (pa_cons pe_int (pa_cons pe_int pa_nil)))))) pa_nil))) pe_int) pa_nil)) (pg_name (i := 9) sc__law_names.nd rfl (by first | exact Or.inl rfl | exact Or.inr rfl))
  (pss_one (ps_set (i := 8) sc__law_names.nd rfl (by first | exact Or.inl rfl | exact Or.inr rfl) (pe_op op_add_str (pv 8) (C8.pe_c c__law_of hr (by omega) (by rfl) (pa_cons (pv 0) (pa_cons (pv 2) pa_nil)))))))
 (pss_one (ps_if (PW.pt (pw_and (pt_cmp (pc_dnotin (hu_of hr) (pv 8) (pv 5))) (pw_and1 (pt_cmpR op_lt (pe_callB call_len_seq (by rfl) T.b_len (by decide +kernel) (pa_cons (pv 4) pa_nil)) (pv 1) (by first | exact nomark _ | rfl))))) (pss_cons (ps_dput (hu_of hr) (pv 5) (pv 8) pe_bl rfl)
 (pss_one (ps_expr (pe_bm PySem.F.plainAttrs_list PySem.F.slot_list_append PySem.F.type_list_append mt_append (pv 4) (pa_cons (pv 8) pa_nil))))) pss_nil)))))
 (pss_cons (ps_for PassesOwn.never rfl (pi_str pe_str) (pg_name (i := 7) sc__law_names.nd rfl (by first | exact Or.inl rfl | exact Or.inr rfl))
  (pss_cons (ps_setLc (i := 10) (own := [("other", 11)]) rfl sc__law_names.nd rfl rfl (sw_true rfl rfl rfl (by decide +kernel)) (pi_str (pv 2)) (blkOk_by (N := ["pot", "many", "signs", "words", "found", "known", "lap", "one", "name", "place", "rest", "other"]) (sc := defScope s__law_names) (by decide +kernel)) (fun _ _ _ _ _ => (pg_name (i := 11) sc__law_names.nd rfl (by first | exact Or.inl rfl | exact Or.inr rfl))) (fun _ _ _ _ _ => (pts_one (pt_cmp (pc_dnotin (hu_of hr) (pe_op op_add_str (pv 7) (pv 11)) (pv 5))))) (fun _ _ _ _ _ => (pe_op op_add_str (pv 7) (pv 11))))
 (pss_one (ps_expr (pe_bm PySem.F.plainAttrs_list PySem.F.slot_list_extend PySem.F.type_list_extend mt_extend (pv 4) (pa_cons (pe_slice sl_list (pv 10) po_none (po_some (pe_callB (call_max2 (by rfl)) (by rfl) T.b_max (by decide +kernel) (pa_cons pe_int (pa_cons (pe_op op_sub (pv 1) (pe_callB call_len_seq (by rfl) T.b_len (by decide +kernel) (pa_cons (pv 4) pa_nil))) pa_nil))))) pa_nil))))))
 (pss_one (ps_ret (pv 4))))))), body_of (n := 2) (fun ρ ds hl hp => ?_) h⟩
  obtain ⟨a, n, rfl, rfl, hn1, hn⟩ := hp
  try dsimp only [cxOf, Cx.nox, Cx.wish]
  apply ex_k
  · apply sj_par (PA := (· = [.str abc, .lst (wordsL.map D.str)])) (k1 := 0)
    · exact eda_cons ed_str (eda_cons (ed_lst (eda_cons ed_str (eda_cons ed_str (eda_cons ed_str (eda_cons ed_str (eda_cons ed_str (eda_cons ed_str eda_nil)))))) (by decide)) eda_nil)
    rintro _ rfl
    refine ⟨_, _, rfl, ?_⟩
    apply sj_tupOO (i := 4) (j := 5) (by decide) rfl en_nil en_dnil
    rintro _ _ rfl rfl
    let base0 : Dl := [some (.val (.opq (.ref a))), some (.val (.int (n : Int))), some (.val (.str abc)), some (.val (.lst (wordsL.map D.str)))]
    let dl : List Str → List Str → Dl := fun fs ks => [some (.val (.opq (.ref a))), some (.val (.int (n : Int))), some (.val (.str abc)), some (.val (.lst (wordsL.map D.str))), some (.own (.lst (fs.map D.str))), some (.own (.dct (knownD ks))), none, none, none, none, none, none]
    apply sj_for (Inv := fun _ t δ' => ∃ ns, δ' = dl ns ns ∧ GoodNs n ns) (Br := fun _ => False) (N := 52)
    · exact ij_range1 (ed_op ed_int (ed_var rfl) (rj_I (wide_mul (a := 10) (b := 10) (by omega) (by omega) (by decide) (by decide) (by decide)))) ⟨by omega, by omega⟩
    · rintro _ rfl
      rw [List.length_map, List.length_range]; omega
    · rintro _ rfl
      exact ⟨[], rfl, Nat.zero_le _, List.nodup_nil, fun z h => by cases h⟩
    · rintro _ t lap _ rfl hd ⟨ns, rfl, hns⟩
      refine ⟨_, gj_name, ?_⟩
      apply sj_set (P := fun d => ∃ z : Str, d = .str z ∧ (isN z ∨ z = ""))
      · apply ej_if (PT := fun _ => True)
        · apply et_test
          apply ej_op (P1 := fun d => ∃ r, d = .int r) (P2 := (· = .int 0))
          · apply ej_call (PA := (· = [.opq (.ref a), .int 6])) (eda_cons (ed_var rfl) (eda_cons ed_int eda_nil))
            · rintro _ rfl
              exact ⟨rfl, a, 6, rfl, rfl, by decide, by decide⟩
            · rintro _ d rfl hd
              obtain ⟨r, rfl, _⟩ := hd _ _ rfl
              exact ⟨r, rfl⟩
          · intro _ _
            exact ed_int
          · rintro _ _ ⟨r, rfl⟩ rfl
            exact ⟨_, ⟨_, rfl, trivial⟩, rj_eqI⟩
        · intro _
          apply ej_call (PA := (· = [.opq (.ref a), .lst (wordsL.map D.str)])) (eda_cons (ed_var rfl) (eda_cons (ed_var rfl) eda_nil))
          · rintro _ rfl
            exact ⟨rfl, a, _, rfl, rfl, .inl ⟨_, rfl, by decide, by decide⟩⟩
          · rintro _ d rfl hd
            obtain ⟨z, hz, rfl⟩ := List.mem_map.mp (hd.1 _ _ rfl)
            exact ⟨z, rfl, .inl (words_isN z hz)⟩
        · intro _
          exact ej_ex ed_str ⟨_, rfl, .inr rfl⟩
      rintro _ ⟨z, rfl, hz⟩
      have hzl : letters z := by
        rcases hz with hz | rfl
        · exact hz.lt
        · intro c hc; cases hc
      apply sj_for (Inv := fun _ t δ' => ∃ y : Str, δ' = ((dl ns ns).set 6 (some (.val lap))).set 8 (some (.val (.str y))) ∧ y.length = z.length + t ∧ letters y) (Br := fun _ => False) (N := 8)
        (ij_range1P (PI := fun m => 0 ≤ m ∧ m ≤ 8 ∧ (z = "" → 1 ≤ m) ∧ (z ≠ "" → m = 0)) (k := 1) ?_ (fun m h => ⟨by omega, by omega⟩))
      · rintro _ ⟨m, h, rfl⟩
        rw [List.length_map, List.length_range]; omega
      · rintro _ ⟨m, h, rfl⟩
        exact ⟨z, rfl, rfl, hzl⟩
      · rintro _ t pl _ ⟨m, hm, rfl⟩ hd ⟨y, rfl, hy, hyl⟩
        have ht : t < m.toNat := by
          have := (List.getElem?_eq_some_iff.mp hd).1
          rw [List.length_map, List.length_range] at this; omega
        have hz0 : z = "" := by
          by_cases e : z = ""
          · exact e
          · have := hm.2.2.2 e; omega
        have hz1 : z.length = 0 := by rw [hz0]; rfl
        refine ⟨_, gj_name, ?_⟩
        apply sj_last
        apply sj_set (P := fun d => ∃ c, d = .str (y ++ ⟨#[c]⟩) ∧ 97 ≤ c ∧ c ≤ 122)
        · apply ej_op (P1 := (· = .str y)) (P2 := fun d => ∃ c, d = .str ⟨#[c]⟩ ∧ 97 ≤ c ∧ c ≤ 122) (ed_var rfl)
          · intro _ _
            apply ej_call (PA := (· = [.opq (.ref a), .str abc])) (eda_cons (ed_var rfl) (eda_cons (ed_var rfl) eda_nil))
            · rintro _ rfl
              exact ⟨rfl, a, _, rfl, rfl, .inr ⟨_, rfl, by decide, by decide⟩⟩
            · rintro _ d rfl hd
              obtain ⟨c, hc, rfl⟩ := hd.2 _ _ rfl
              exact ⟨c, rfl, abc_let c hc⟩
          · rintro _ _ rfl ⟨c, rfl, hc⟩
            exact ⟨_, ⟨c, rfl, hc⟩, rj_addS (by show y.length + 1 ≤ 1000000; omega)⟩
        rintro _ ⟨c, rfl, hc⟩
        refine sj_nextW (δ' := ((dl ns ns).set 6 (some (.val lap))).set 8 (some (.val (.str (y ++ (⟨#[c]⟩ : Str)))))) (.keep (.keep (.keep (.keep (.keep (.keep (.keep (.keep (.keep (.drop (.keep (.keep .nil)))))))))))) ?_
        refine ⟨_, rfl, by rw [str_lenA, hy]; rfl, hyl.app fun x hx => ?_⟩
        have : x = c := by simpa using hx
        subst this
        exact hc
      · rintro _ _ ⟨m, hm, rfl⟩ (⟨y, rfl, hy, hyl⟩ | z')
        rotate_left
        · exact z'.elim
        rw [List.length_map, List.length_range] at hy
        have hyN : isN y := by
          rcases hz with hz | rfl
          · have h0 := hz.lo
            have h1 := hz.hi
            have hne : z ≠ "" := fun e => by rw [e] at h0; exact absurd h0 (by decide)
            have := hm.2.2.2 hne
            exact ⟨by omega, by omega, hyl⟩
          · have h0 : ("" : Str).length = 0 := rfl
            have := hm.2.2.1 rfl
            exact ⟨by omega, by omega, hyl⟩
        apply sj_last
        apply sj_ifs (PT := fun b => b = (!decide (y ∈ ns) && decide (((ns.map D.str).length : Int) < n)))
        · apply eb_and
          · apply et_peek 5 rfl
            rw [← known_has]
            exact eb_B (ed_dnotin (x := .inr y) (ed_var rfl) (ed_var rfl))
          · intro _
            apply et_peek 4 rfl
            exact eb_test (ed_op (ed_cb (eda_cons (ed_var rfl) eda_nil) cj_len) (ed_var rfl) rj_B0)
        · intro e
          have e' := e.symm
          simp only [Bool.and_eq_true, Bool.not_eq_true', decide_eq_false_iff_not, decide_eq_true_eq, List.length_map] at e'
          apply sj_assoc
          apply sj_dput (i := 5) (x := .inr y) rfl (P := (· = .bl true)) ed_bl (ed_var rfl)
          · have := hns.le
            simp [knownD]; omega
          rintro _ rfl
          apply sj_app (i := 4) (P := (· = .str y)) rfl (ed_var rfl)
          · have := hns.le
            simp; omega
          rintro _ rfl
          rw [known_put e'.1]
          refine sj_nextW (δ' := dl (ns ++ [y]) (ns ++ [y])) ?_ ?_
          · have : (ns ++ [y]).map D.str = ns.map D.str ++ [.str y] := by simp
            show Fewer [_, _, _, _, some (.own (.lst ((ns ++ [y]).map D.str))), _, _, _, _, _, _, _] _
            rw [this]
            exact .keep (.keep (.keep (.keep (.keep (.keep (.drop (.keep (.drop (.keep (.keep (.keep .nil)))))))))))
          · refine ⟨_, rfl, ?_, ?_, ?_⟩
            · have := e'.2
              rw [List.length_append]
              show ns.length + 1 ≤ n
              omega
            · rw [List.nodup_append]
              refine ⟨hns.nd, by simp, fun u hu v hv => ?_⟩
              rw [List.mem_singleton] at hv
              subst hv
              exact fun e => e'.1 (by rw [← e]; exact hu)
            · intro u hu
              rw [List.mem_append, List.mem_singleton] at hu
              rcases hu with hu | rfl
              · exact hns.ok u hu
              · exact hyN
        · intro _
          apply sj_nexts
          exact sj_nextW (δ' := dl ns ns) (.keep (.keep (.keep (.keep (.keep (.keep (.drop (.keep (.drop (.keep (.keep (.keep .nil)))))))))))) ⟨ns, rfl, hns⟩
      · -- range(of(..) if name == '' else 0)
        apply ej_le
        · apply ej_if (PT := fun b => b = decide (z = ""))
          · exact eb_test (ed_op (ed_var rfl) ed_str rj_eqS)
          · intro e
            have ez : z = "" := of_decide_eq_true e.symm
            apply ej_call (PA := (· = [.opq (.ref a), .lst ([1, 1, 2, 3, 8].map D.int)])) (eda_cons (ed_var rfl) (eda_cons (ed_lst (eda_cons ed_int (eda_cons ed_int (eda_cons ed_int (eda_cons ed_int (eda_cons ed_int eda_nil))))) (by decide)) eda_nil))
            · rintro _ rfl
              exact ⟨rfl, a, _, rfl, rfl, .inl ⟨_, rfl, by decide, by decide⟩⟩
            · rintro _ d rfl hd
              obtain ⟨i, hi, rfl⟩ := List.mem_map.mp (hd.1 _ _ rfl)
              have : 1 ≤ i ∧ i ≤ 8 := by
                simp only [List.mem_cons, List.not_mem_nil, or_false] at hi
                rcases hi with rfl | rfl | rfl | rfl | rfl <;> decide
              exact ⟨i, rfl, by omega, by omega, fun _ => by omega, fun ne => absurd ez ne⟩
          · intro e
            have ez : z ≠ "" := of_decide_eq_false e.symm
            exact ej_ex ed_int ⟨0, rfl, by decide, by decide, fun e => absurd e ez, fun _ => rfl⟩
        · decide
    · rintro _ _ rfl (⟨ns, rfl, hns⟩ | z')
      rotate_left
      · exact z'.elim
      apply sj_for (Inv := fun _ t δ' => ∃ fs, δ' = dl fs ns ∧ (t = 0 → fs = ns) ∧ (0 < t → fs.length = n) ∧ GoodNs n fs) (Br := fun _ => False) (N := 4)
      · exact ij_str ed_str
      · rintro _ rfl
        decide
      · rintro _ rfl
        exact ⟨ns, rfl, fun _ => rfl, fun h => by omega, hns⟩
      · rintro _ t d _ rfl hd ⟨fs, rfl, h0, h1, hfs⟩
        obtain ⟨one, rfl, hone, honl⟩ : ∃ one : Str, d = .str one ∧ one.length = 1 ∧ letters one := by
          have hm := List.mem_of_getElem? hd
          unfold chrD at hm
          obtain ⟨c, hc, rfl⟩ := List.mem_map.mp hm
          refine ⟨_, rfl, rfl, fun x hx => ?_⟩
          have hq : ∀ c ∈ ("qxyz" : Str).cps.toList, 97 ≤ c ∧ c ≤ 122 := by decide +kernel
          have : x = c := by simpa using hx
          subst this
          exact hq x hc
        refine ⟨_, gj_name, ?_⟩
        apply sj_set (P := (· = .lst ((restS ns one abc).map D.str)))
        · apply EN.ej
          apply en_peek 5 rfl
          · refine (en_lcE (L := [11]) (p := fun d => match d with | .str y => !decide (one ++ y ∈ ns) | _ => false) (f := fun d => match d with | .str y => .str (one ++ y) | _ => .non) (ij_str (ed_var rfl)) (fun i h => h) (by decide) (fun d _ => gj_name) (fun d hd => ?_) (fun d hd hp => ?_)).mono (Nat.le_refl _) fun r e => ?_
            · obtain ⟨c, _, rfl⟩ := List.mem_map.mp hd
              show EB _ _ _ _ (!decide (one ++ (⟨#[c]⟩ : Str) ∈ ns))
              rw [← known_has]
              exact eb_B (ed_dnotin (x := .inr (one ++ ⟨#[c]⟩)) (ed_op (ed_var rfl) (ed_var rfl) (rj_addS (by rw [hone]; show 1 + 1 ≤ 1000000; decide))) (ed_var rfl))
            · obtain ⟨c, _, rfl⟩ := List.mem_map.mp hd
              exact ed_op (ed_var rfl) (ed_var rfl) (rj_addS (by rw [hone]; show 1 + 1 ≤ 1000000; decide))
            · rw [e, chrD_S, List.filter_map, List.map_map]
              unfold restS
              rw [List.map_map]
              rfl
          · rintro _ rfl
            refine ⟨_, rfl, ?_⟩
            rw [List.all_eq_true]
            intro x hx
            obtain ⟨_, _, rfl⟩ := List.mem_map.mp hx
            rfl
        rintro _ rfl
        apply sj_last
        have hle := hfs.le
        have hm0 : (0 : Int) ≤ (if (n : Int) - ((fs.map D.str).length : Nat) > 0 then (n : Int) - ((fs.map D.str).length : Nat) else 0) := by split <;> omega
        have hm1 : (if (n : Int) - ((fs.map D.str).length : Nat) > 0 then (n : Int) - ((fs.map D.str).length : Nat) else 0).toNat = n - fs.length := by rw [List.length_map]; split <;> omega
        apply sj_ext (i := 4) (es := ((restS ns one abc).map D.str).take (n - fs.length)) rfl
        · rw [← hm1, ← cut_to hm0]
          apply EN.ej
          apply en_sl (ed_var rfl) eo_none
          apply eo_some
          exact ed_cb (eda_cons ed_int (eda_cons (ed_op (ed_var rfl) (ej_peek 4 rfl (ed_cb (eda_cons (ed_var rfl) eda_nil) cj_len) (fun d e => by subst e; rfl)) rj_I0) eda_nil)) cj_max2
        · rw [List.length_map, List.length_take]
          omega
        · refine sj_nextW (δ' := dl (fs ++ (restS ns one abc).take (n - fs.length)) ns) ?_ ?_
          · have : (fs ++ (restS ns one abc).take (n - fs.length)).map D.str = fs.map D.str ++ ((restS ns one abc).map D.str).take (n - fs.length) := by rw [List.map_append, List.map_take]
            show Fewer [_, _, _, _, some (.own (.lst ((fs ++ (restS ns one abc).take (n - fs.length)).map D.str))), _, _, _, _, _, _, _] _
            rw [this]
            exact .keep (.keep (.keep (.keep (.keep (.keep (.keep (.drop (.keep (.keep (.drop (.keep .nil)))))))))))
          · rcases Nat.eq_zero_or_pos t with z | z
            · have e := h0 z
              subst e
              have hrl := rest_len (ns := fs) (one := one)
              have hlen : (fs ++ (restS fs one abc).take (n - fs.length)).length = n := by
                rw [List.length_append, List.length_take]; omega
              refine ⟨_, rfl, fun h => by omega, fun _ => hlen, Nat.le_of_eq hlen, ?_, ?_⟩
              · rw [List.nodup_append]
                refine ⟨hfs.nd, (rest_nodup).sublist (List.take_sublist _ _), fun u hu v hv => ?_⟩
                exact fun e => rest_notin (List.mem_of_mem_take hv) (by rw [← e]; exact hu)
              · intro u hu
                rcases List.mem_append.mp hu with hu | hu
                · exact hfs.ok u hu
                · exact rest_isN hone honl (List.mem_of_mem_take hu)
            · have hl' := h1 z
              have e : fs ++ (restS ns one abc).take (n - fs.length) = fs := by rw [hl', Nat.sub_self, List.take_zero, List.append_nil]
              rw [e]
              exact ⟨fs, rfl, fun h => by omega, fun _ => hl', hfs⟩
      · rintro _ _ rfl (⟨fs, rfl, h0, h1, hfs⟩ | z')
        rotate_left
        · exact z'.elim
        apply sj_frz 4 rfl
        apply sj_retP (ed_var rfl)
        rintro _ rfl
        refine .inl ⟨_, rfl, fun a' n' e => ?_⟩
        injection e with e1 e2
        injection e2 with e3 e4
        injection e3 with e3
        have : n = n' := by omega
        subst this
        exact ⟨fs, rfl, h1 (by decide), hfs⟩
  · decide
end
end DN

namespace DN
open PySem PySem.Spec PyProof.Rows L2
variable [Tb]
abbrev Lk := Str × Str × Int × Int
def pairD (p : Str × Str) : D := .tup [.str p.1, .str p.2]
def linkD (l : Lk) : D := .tup [.str l.1, .str l.2.1, .int l.2.2.1, .int l.2.2.2]
def endsOf (l : Lk) : Str × Str := (l.1, l.2.1)
theorem pyL_map {α : Type} (f : α → D) : ∀ l : List α, pyL (l.map f) = l.map fun a => py (f a)
  | [] => rfl
  | a :: r => by rw [List.map_cons, List.map_cons, pyL, pyL_map f r]
theorem seqL_map {α : Type} {f : α → D} (h : ∀ a, seqD (f a) = true) : ∀ l : List α, seqL (l.map f) = true
  | [] => rfl
  | a :: r => by rw [List.map_cons, seqL, h a, seqL_map h r]; rfl
theorem letters.ok {z : Str} (h : letters z) : PyData.strOk z = true := by
  unfold PyData.strOk
  rw [Array.all_eq_true]
  intro i hi
  have := h z.cps[i] (by simp)
  simp; omega
abbrev okP (p : Str × Str) : Prop := letters p.1 ∧ letters p.2
theorem lay_pair {p : Str × Str} (h : okP p) : (py (pairD p)).canLay0 = true := by
  have h1 := h.1.ok
  have h2 := h.2.ok
  simp [pairD, py, pyL, PyData.canLay0, PyData.canLayAll0, h1, h2]
theorem deep_pair (p : Str × Str) : (py (pairD p)).depth = 1 := by simp [pairD, py, pyL, PyData.depth, PyData.depthAll]
theorem lay_all : ∀ {l : List PyData}, (∀ x ∈ l, x.canLay0 = true) → PyData.canLayAll0 l = true
  | [], _ => by simp [PyData.canLayAll0]
  | x :: r, h => by
    rw [PyData.canLayAll0, h x (List.mem_cons_self ..), lay_all fun y hy => h y (List.mem_cons_of_mem _ hy)]
    rfl
theorem deep_all {n : Nat} : ∀ {l : List PyData}, (∀ x ∈ l, x.depth ≤ n) → PyData.depthAll l ≤ n
  | [], _ => by simp [PyData.depthAll]
  | x :: r, h => by
    have h1 := h x (List.mem_cons_self ..)
    have h2 := deep_all (l := r) fun y hy => h y (List.mem_cons_of_mem _ hy)
    simp only [PyData.depthAll]
    omega
theorem shaped_pair {p : Str × Str} (h : okP p) : SeqAt.shaped (py (pairD p)) = true := by
  unfold SeqAt.shaped
  rw [lay_pair h, deep_pair]
  rfl
theorem shaped_pairs {ps : List (Str × Str)} (h : ∀ p ∈ ps, okP p) : SeqAt.shaped (.list (ps.map fun p => py (pairD p))) = true := by
  unfold SeqAt.shaped
  have h1 : PyData.canLay0 (.list (ps.map fun p => py (pairD p))) = true := by
    rw [PyData.canLay0]
    refine lay_all fun x hx => ?_
    obtain ⟨p, hp, rfl⟩ := List.mem_map.mp hx
    exact lay_pair (h p hp)
  have h2 : PyData.depth (.list (ps.map fun p => py (pairD p))) ≤ 2 := by
    rw [PyData.depth]
    have : PyData.depthAll (ps.map fun p => py (pairD p)) ≤ 1 := deep_all fun x hx => by
      obtain ⟨p, _, rfl⟩ := List.mem_map.mp hx
      exact Nat.le_of_eq (deep_pair p)
    omega
  rw [h1, Bool.true_and, decide_eq_true_eq]
  omega
theorem eqv_pair (p q : Str × Str) : PyData.eqv (py (pairD p)) (py (pairD q)) = decide (p = q) := by
  obtain ⟨a, b⟩ := p
  obtain ⟨c, d⟩ := q
  rw [Bool.eq_iff_iff]
  simp [pairD, py, pyL, PyData.eqv, PyData.eqvAll]
theorem enumD_get {ds : List D} {i : Nat} {x : D} (h : (enumD ds)[i]? = some x) : ∃ y, ds[i]? = some y ∧ x = .tup [.int (i : Int), y] := by
  unfold enumD at h
  rw [List.getElem?_zipWith] at h
  cases hr : (List.range ds.length)[i]? with
  | none => rw [hr] at h; cases h
  | some j =>
    cases hd : ds[i]? with
    | none => rw [hr, hd] at h; cases h
    | some y =>
      rw [hr, hd] at h
      have e := List.getElem?_eq_some_iff.mp hr
      obtain ⟨_, e⟩ := e
      rw [List.getElem_range] at e
      subst e
      exact ⟨y, rfl, (Option.some.inj h).symm⟩
section
variable {ρ : Rh} {K : PySem.W.Frag} {δ : Dl} {te ta tb : TE}
theorem rj_pairNotin {p : Str × Str} {ps : List (Str × Str)} (ok : okP p) (oks : ∀ p ∈ ps, okP p) : RJ K (rNotInD K) (pairD p) (.lst (ps.map pairD)) (.bl (!decide (p ∈ ps))) := .mk fun x y G H Q hx hy s q => by
  have h1 := at_dp (hx.mono s) (by simp [pairD, seqD, seqL])
  have h2 := at_dp (hy.mono s) (by
    show seqL (ps.map pairD) = true
    exact seqL_map (fun a => by simp [pairD, seqD, seqL]) ps)
  rw [py, pyL_map] at h2
  refine ⟨_, _, h1, h2, shaped_pair ok, shaped_pairs oks, ?_⟩
  have e : ((ps.map fun a => py (pairD a)).any fun z => PyData.eqv z (py (pairD p))) = decide (p ∈ ps) := by
    rw [Bool.eq_iff_iff]
    simp [eqv_pair]
  rw [e]
  exact q _ G H (Gd.refl s) (.bl _)
end
def unpair : D → Str × Str
  | .tup [.str a, .str b] => (a, b)
  | _ => ("", "")
theorem unpair_pair (p : Str × Str) : unpair (pairD p) = p := rfl
theorem perm_pairs {rs : List D} {ps : List (Str × Str)} (h : rs.Perm (ps.map pairD)) : ∃ qs : List (Str × Str), rs = qs.map pairD ∧ qs.Perm ps := by
  refine ⟨rs.map unpair, ?_, ?_⟩
  · rw [List.map_map]
    have : rs.map (pairD ∘ unpair) = rs.map id := List.map_congr_left fun x hx => by
      obtain ⟨p, _, rfl⟩ := List.mem_map.mp (h.mem_iff.mp hx)
      rfl
    rw [this, List.map_id]
  · have := h.map unpair
    rw [List.map_map] at this
    have e : ps.map (unpair ∘ pairD) = ps := by
      have : ps.map (unpair ∘ pairD) = ps.map id := List.map_congr_left fun x _ => rfl
      rw [this, List.map_id]
    rw [e] at this
    exact this
/-- the ends are right -/
structure GoodPs (ns : List Str) (goal : Str) (ps : List (Str × Str)) : Prop where
  nd : ps.Nodup
  a : ∀ p ∈ ps, p.1 ∈ ns
  b : ∀ p ∈ ps, p.2 ∈ goal :: ns
  ne : ∀ p ∈ ps, p.1 ≠ p.2
structure GoodLs (ns : List Str) (goal : Str) (window : Int) (ls : List Lk) : Prop where
  ends : GoodPs ns goal (ls.map endsOf)
  room : ∀ l ∈ ls, 1 ≤ l.2.2.1 ∧ l.2.2.1 ≤ 6
  times : ∀ l ∈ ls, 0 ≤ l.2.2.2 ∧ l.2.2.2 ≤ window
theorem GoodPs.snoc {ns : List Str} {goal : Str} {ps : List (Str × Str)} {x y : Str} (h : GoodPs ns goal ps) (hx : x ∈ ns) (hy : y ∈ goal :: ns) (hne : x ≠ y) (hn : (x, y) ∉ ps) : GoodPs ns goal (ps ++ [(x, y)]) := by
  refine ⟨?_, fun p hp => ?_, fun p hp => ?_, fun p hp => ?_⟩
  · rw [List.nodup_append]
    refine ⟨h.nd, by simp, fun u hu v hv e => ?_⟩
    rw [List.mem_singleton] at hv
    subst hv
    exact hn (by rw [← e]; exact hu)
  · rw [List.mem_append, List.mem_singleton] at hp
    rcases hp with hp | rfl
    · exact h.a p hp
    · exact hx
  · rw [List.mem_append, List.mem_singleton] at hp
    rcases hp with hp | rfl
    · exact h.b p hp
    · exact hy
  · rw [List.mem_append, List.mem_singleton] at hp
    rcases hp with hp | rfl
    · exact h.ne p hp
    · exact hne
section
variable {P : Program} {w : World} {K : PySem.W.Frag} {mg : Str → Option Value} {base : Heap}
theorem ej_take {ρ : Rh} {δ : Dl} {a : Addr} {u : Int} {ta tb : TE} {E : XK} (hρ : ρ = .some a) (ha : ED ρ K ta δ (.opq (.ref a))) (hb : ED ρ K tb δ (.int u)) (h0 : 0 < u) (h1 : u < 2 ^ 62) : EJ ρ K (tCall (spTake K) [] E (tCons ta (tCons tb tNil))) δ (0 + 1) (fun d => ∃ r, d = .int r ∧ 0 ≤ r ∧ r < u) :=
  ej_call (PA := (· = [.opq (.ref a), .int u])) (eda_cons ha (eda_cons hb eda_nil)) (fun _ e => ⟨by subst e; rfl, a, u, e, hρ, h0, h1⟩) (fun ds d e h => h _ _ e)
theorem ej_ofL {ρ : Rh} {δ : Dl} {a : Addr} {ta tb : TE} {E : XK} {l : List D} (hρ : ρ = .some a) (ha : ED ρ K ta δ (.opq (.ref a))) (hb : ED ρ K tb δ (.lst l)) (h0 : 0 < l.length) (h1 : l.length < 2 ^ 40) : EJ ρ K (tCall (spOf K) [] E (tCons ta (tCons tb tNil))) δ (0 + 1) (fun d => d ∈ l) :=
  ej_call (PA := (· = [.opq (.ref a), .lst l])) (eda_cons ha (eda_cons hb eda_nil)) (fun _ e => ⟨by subst e; rfl, a, _, e, hρ, .inl ⟨l, rfl, h0, h1⟩⟩) (fun ds d e h => h.1 _ _ e)
theorem ej_ofP {ρ : Rh} {δ : Dl} {a : Addr} {ta tb : TE} {E : XK} {k : Nat} {PL : List D → Prop} (hρ : ρ = .some a) (ha : ED ρ K ta δ (.opq (.ref a))) (hb : EJ ρ K tb δ k (fun d => ∃ l, d = .lst l ∧ PL l)) (h0 : ∀ l, PL l → 0 < l.length ∧ l.length < 2 ^ 40) {Pd : D → Prop} (hd : ∀ l d, PL l → d ∈ l → Pd d) : EJ ρ K (tCall (spOf K) [] E (tCons ta (tCons tb tNil))) δ (0 + (k + 0) + 1) Pd :=
  ej_call (PA := fun ds => ∃ l, ds = [.opq (.ref a), .lst l] ∧ PL l) (ea_cons (P1 := (· = .opq (.ref a))) (PR := fun ds => ∃ l, ds = [.lst l] ∧ PL l) ha (fun _ _ => ea_cons (PR := (· = [])) hb (fun _ _ => eda_nil) (fun x r hx hr => by obtain ⟨l, rfl, hl⟩ := hx; subst hr; exact ⟨l, rfl, hl⟩)) (fun x r hx hr => by obtain ⟨l, rfl, hl⟩ := hr; subst hx; exact ⟨l, rfl, hl⟩))
    (fun _ e => by obtain ⟨l, rfl, hl⟩ := e; exact ⟨rfl, a, _, rfl, hρ, .inl ⟨l, rfl, h0 l hl⟩⟩) (fun ds d e h => by obtain ⟨l, rfl, hl⟩ := e; exact hd l d hl (h.1 _ _ rfl))
theorem not_take {ns : List Str} {t : Nat} {nm : Str} (h : ns.Nodup) (e : ns[t]? = some nm) : nm ∉ ns.take t := by
  rw [← List.take_append_drop t ns, List.nodup_append] at h
  intro z
  refine h.2.2 nm z nm ?_ rfl
  have ht := (List.getElem?_eq_some_iff.mp e).1
  rw [List.drop_eq_getElem_cons ht]
  have : ns[t] = nm := (List.getElem?_eq_some_iff.mp e).2
  rw [this]
  exact List.mem_cons_self ..
/-- ints of a range, so many -/
abbrev IntsIn (lo hi : Int) (n : Nat) : List D → Prop := fun ds => ds.length = n ∧ ∀ x ∈ ds, ∃ k, x = .int k ∧ lo ≤ k ∧ k ≤ hi
section
variable {ρ : Rh} {δ : Dl} {te : TE} {tr : TA} {lo hi : Int} {n k1 k2 : Nat}
theorem eai_nil : EA ρ K tNil δ 0 (IntsIn lo hi 0) := .mk fun G0 H0 G H σ m Q w hm q => q [] [] G H m ⟨rfl, fun x h => by cases h⟩ w (Gd.refl w.gd.sub) (Nat.le_refl _) .nil
theorem eai_cons (h : EJ ρ K te δ k1 (fun d => ∃ k, d = .int k ∧ lo ≤ k ∧ k ≤ hi)) (hr : EA ρ K tr δ k2 (IntsIn lo hi n)) : EA ρ K (tCons te tr) δ (k1 + k2) (IntsIn lo hi (n + 1)) :=
  ea_cons h (fun _ _ => hr) fun a r ha hr => ⟨by rw [List.length_cons, hr.1], fun x hx => by
    rcases List.mem_cons.mp hx with rfl | hx
    · exact ha
    · exact hr.2 x hx⟩
theorem ej_in {i : Int} (h : ED ρ K te δ (.int i)) (h0 : lo ≤ i) (h1 : i ≤ hi) : EJ ρ K te δ 0 (fun d => ∃ k, d = .int k ∧ lo ≤ k ∧ k ≤ hi) := ej_ex h ⟨i, rfl, h0, h1⟩
theorem ej_1take {a : Addr} {u : Int} {ta tb : TE} {E : XK} (hρ : ρ = .some a) (ha : ED ρ K ta δ (.opq (.ref a))) (hb : ED ρ K tb δ (.int u)) (h0 : 0 < u) (h1 : u < 2 ^ 62) (hlo : lo ≤ 1) (hhi : u ≤ hi) :
    EJ ρ K (tOp (rI0 fun i j => V.int (i + j)) (tC (.int 1)) (tCall (spTake K) [] E (tCons ta (tCons tb tNil)))) δ (0 + (0 + 1)) (fun d => ∃ k, d = .int k ∧ lo ≤ k ∧ k ≤ hi) :=
  ej_op (P1 := (· = .int 1)) ed_int (fun _ _ => ej_take hρ ha hb h0 h1) fun x y hx hy => by
    obtain ⟨r, rfl, r0, r1⟩ := hy
    subst hx
    exact ⟨_, ⟨1 + r, rfl, by omega, by omega⟩, rj_I0⟩
/-- int(of([..])) of ints -/
theorem ej_intOf {a : Addr} {ta : TE} {E : XK} {tl : TA} {k : Nat} (hρ : ρ = .some a) (ha : ED ρ K ta δ (.opq (.ref a))) (hl : EA ρ K tl δ k (IntsIn lo hi (n + 1))) (hn : n < 1000) :
    EJ ρ K (tCB (fun xs H Q => (∃ i, xs = [.int i] ∧ Q (.int i) H) ∨ ∃ k, xs = [.bl k] ∧ Q (.int (if k then 1 else 0)) H) (tCons (tCall (spOf K) [] E (tCons ta (tCons (tLst tl) tNil))) tNil)) δ (0 + (k + 0) + 1 + 0) (fun d => ∃ k, d = .int k ∧ lo ≤ k ∧ k ≤ hi) :=
  ej_cb (PA := fun ds => ∃ k, ds = [.int k] ∧ lo ≤ k ∧ k ≤ hi) (ea_cons (P1 := fun d => ∃ k, d = .int k ∧ lo ≤ k ∧ k ≤ hi) (PR := (· = []))
    (ej_ofP (PL := IntsIn lo hi (n + 1)) hρ ha (ej_lst hl (fun ds h => by rw [h.1]; omega) fun ds h => ⟨ds, rfl, h⟩) (fun l h => ⟨by rw [h.1]; omega, by rw [h.1]; omega⟩) fun l d h hd => h.2 d hd)
    (fun _ _ => eda_nil) fun x r hx hr => by
      obtain ⟨k, rfl, h⟩ := hx
      subst hr
      exact ⟨k, rfl, h⟩) fun ds h => by
    obtain ⟨k, rfl, h⟩ := h
    exact ⟨_, ⟨k, rfl, h⟩, cj_int⟩
end
def preLinks (ρ : Rh) (ds : List D) : Prop := ∃ (a : Addr) (ns : List Str) (goal : Str) (m : Nat) (wd : Int), ds = [.opq (.ref a), .lst (ns.map D.str), .str goal, .int (m : Int), .int wd] ∧ ρ = .some a ∧ ns.Nodup ∧ goal ∉ ns ∧ 1 ≤ ns.length ∧ ns.length ≤ 26 ∧ m ≤ 100 ∧ 1 ≤ wd ∧ wd ≤ 1000 ∧ (∀ z ∈ goal :: ns, isN z)
def postLinks (ds : List D) (d : D) : Prop := ∀ a (ns : List Str) (goal : Str) (m : Nat) (wd : Int), ds = [.opq a, .lst (ns.map D.str), .str goal, .int (m : Int), .int wd] → ∃ ls : List Lk, d = .lst (ls.map linkD) ∧ GoodLs ns goal wd ls
theorem strs_inj : ∀ {xs ys : List Str}, xs.map D.str = ys.map D.str → xs = ys
  | [], [], _ => rfl
  | x :: xs, y :: ys, h => by
    rw [List.map_cons, List.map_cons] at h
    injection h with h1 h2
    injection h1 with h1
    rw [h1, strs_inj h2]
abbrev spLinks (K : PySem.W.Frag) (c : Nat) : Sp := spJ K 5 preLinks c postLinks
theorem ok_links {f : Addr} {fd : FuncData} (F : Fun K "_law_links" "_law_links" s__law_links f fd) (T : Txt K mg) (T2 : mg "enumerate" = none) (c__law_take : C8.Cal P w K mg base 1 "_law_take" (spTake K) []) (c__law_of : C8.Cal P w K mg base 2 "_law_of" (spOf K) []) (c__law_some : C8.Cal P w K mg base 2 "_law_some" (spSome K 1000) []) : FnOk P w K mg base CX0 3 f fd ["pot", "names", "goal", "many", "window"] (spLinks K 10000) := by
  refine F.ok sc__law_links (fun vs H Q E h => spJ_len h) (fun cdv A outer s H vs Q E hr h => ?_)
  have h65 : (A.deeper (envOfC "_law_links" (defScope s__law_links) s.heap.objs.size f cdv)).units + 65 < cLine := by have := hr.un; omega
  refine ⟨_, (pss_cons (ps_par (i := 5) (j := 6) (by rfl) sc__law_links.nd rfl rfl (by decide) rfl rfl (pa_cons (pe_lst pa_nil) (pa_cons (pe_lst pa_nil) pa_nil)) (by rfl))
 (pss_cons (ps_for PassesOwn.never rfl (pi_enum (by rfl) T2 (pa_cons (pv 1) pa_nil)) (pg_tup rfl (pgs_cons (pg_name (i := 7) sc__law_links.nd rfl (by first | exact Or.inl rfl | exact Or.inr rfl)) (pgs_cons (pg_name (i := 8) sc__law_links.nd rfl (by first | exact Or.inl rfl | exact Or.inr rfl)) pgs_nil)))
  (pss_cons (ps_set (i := 12) sc__law_links.nd rfl (by first | exact Or.inl rfl | exact Or.inr rfl) (pe_ifExp (pt_cmpR op_gt (C8.pe_c c__law_take hr (by omega) (by rfl) (pa_cons (pv 0) (pa_cons pe_int pa_nil))) pe_int (by first | exact nomark _ | rfl)) (pe_op op_cat (pe_lst (pa_cons (pv 2) pa_nil)) (pe_slice sl_list (pv 1) po_none (po_some (pv 7)))) (pe_op op_cat (pe_lst (pa_cons (pv 2) pa_nil)) (pv 1))))
 (pss_one (ps_if (pt_cmpR op_gt (C8.pe_c c__law_take hr (by omega) (by rfl) (pa_cons (pv 0) (pa_cons pe_int pa_nil))) pe_int (by first | exact nomark _ | rfl)) (pss_one (ps_expr (pe_bm PySem.F.plainAttrs_list PySem.F.slot_list_append PySem.F.type_list_append mt_append (pv 5) (pa_cons (pe_tup (pa_cons (pv 8) (pa_cons (C8.pe_c c__law_of hr (by omega) (by rfl) (pa_cons (pv 0) (pa_cons (pe_lc (own := [("other", 11)]) rfl sc__law_links.nd (pi_list (pv 12)) (blkOk_by (N := ["pot", "names", "goal", "many", "window", "pairs", "found", "at", "name", "lap", "one", "other", "others", "often"]) (sc := defScope s__law_links) (by decide +kernel)) (fun _ _ _ _ _ => (pg_name (i := 11) sc__law_links.nd rfl (by first | exact Or.inl rfl | exact Or.inr rfl))) (fun _ _ _ _ _ => (pts_one (pt_cmpR op_ne (pv 11) (pv 8) (by first | exact nomark _ | rfl)))) (fun _ _ _ _ _ => (pv 11))) pa_nil))) pa_nil))) pa_nil)))) pss_nil))))
 (pss_cons (ps_for PassesOwn.never rfl (pi_range1 (by rfl) T.b_range (pa_cons (pe_callB (call_max2 (by rfl)) (by rfl) T.b_max (by decide +kernel) (pa_cons pe_int (pa_cons (pe_op op_sub (pv 3) (pe_callB call_len_seq (by rfl) T.b_len (by decide +kernel) (pa_cons (pv 5) pa_nil))) pa_nil))) pa_nil)) (pg_name (i := 9) sc__law_links.nd rfl (by first | exact Or.inl rfl | exact Or.inr rfl))
  (pss_cons (ps_par (i := 10) (j := 11) (by rfl) sc__law_links.nd rfl rfl (by decide) rfl rfl (pa_cons (C8.pe_c c__law_of hr (by omega) (by rfl) (pa_cons (pv 0) (pa_cons (pv 1) pa_nil))) (pa_cons (C8.pe_c c__law_of hr (by omega) (by rfl) (pa_cons (pv 0) (pa_cons (pe_op op_cat (pv 1) (pe_lst (pa_cons (pv 2) pa_nil))) pa_nil))) pa_nil)) (by rfl))
 (pss_one (ps_if (PW.pt (pw_and (pt_cmpR op_ne (pv 10) (pv 11) (by first | exact nomark _ | rfl)) (pw_and1 (pt_cmpR (op_notInD h65) (pe_tup (pa_cons (pv 10) (pa_cons (pv 11) pa_nil))) (pv 5) (by first | exact nomark _ | rfl))))) (pss_one (ps_expr (pe_bm PySem.F.plainAttrs_list PySem.F.slot_list_append PySem.F.type_list_append mt_append (pv 5) (pa_cons (pe_tup (pa_cons (pv 10) (pa_cons (pv 11) pa_nil))) pa_nil)))) pss_nil))))
 (pss_cons (ps_for PassesOwn.never rfl (pi_list (C8.pe_c c__law_some hr (by omega) (by rfl) (pa_cons (pv 0) (pa_cons (pv 5) (pa_cons (pe_callB call_len_seq (by rfl) T.b_len (by decide +kernel) (pa_cons (pv 5) pa_nil)) pa_nil))))) (pg_tup rfl (pgs_cons (pg_name (i := 10) sc__law_links.nd rfl (by first | exact Or.inl rfl | exact Or.inr rfl)) (pgs_cons (pg_name (i := 11) sc__law_links.nd rfl (by first | exact Or.inl rfl | exact Or.inr rfl)) pgs_nil)))
  (pss_cons (ps_set (i := 13) sc__law_links.nd rfl (by first | exact Or.inl rfl | exact Or.inr rfl) (pe_callTy call_int1 (by rfl) T.b_int (by decide +kernel) (pa_cons (C8.pe_c c__law_of hr (by omega) (by rfl) (pa_cons (pv 0) (pa_cons (pe_lst (pa_cons pe_int (pa_cons (pv 4) (pa_cons (pe_op op_add pe_int (C8.pe_c c__law_take hr (by omega) (by rfl) (pa_cons (pv 0) (pa_cons (pv 4) pa_nil)))) (pa_cons (pe_op op_add pe_int (C8.pe_c c__law_take hr (by omega) (by rfl) (pa_cons (pv 0) (pa_cons (pv 4) pa_nil)))) pa_nil))))) pa_nil))) pa_nil)))
 (pss_one (ps_expr (pe_bm PySem.F.plainAttrs_list PySem.F.slot_list_append PySem.F.type_list_append mt_append (pv 6) (pa_cons (pe_tup (pa_cons (pv 10) (pa_cons (pv 11) (pa_cons (pe_callTy call_int1 (by rfl) T.b_int (by decide +kernel) (pa_cons (C8.pe_c c__law_of hr (by omega) (by rfl) (pa_cons (pv 0) (pa_cons (pe_lst (pa_cons pe_int (pa_cons pe_int (pa_cons pe_int (pa_cons pe_int (pa_cons (pe_op op_add pe_int (C8.pe_c c__law_take hr (by omega) (by rfl) (pa_cons (pv 0) (pa_cons pe_int pa_nil)))) pa_nil)))))) pa_nil))) pa_nil)) (pa_cons (pv 13) pa_nil))))) pa_nil))))))
 (pss_one (ps_ret (pv 6))))))), body_of (n := 5) (fun ρ ds hl hp => ?_) h⟩
  obtain ⟨a, ns, goal, m, wd, rfl, rfl, hnd, hg, hn1, hn2, hm, hw1, hw2, hN⟩ := hp
  try dsimp only [cxOf, Cx.nox, Cx.wish]
  have okOf : ∀ {ps : List (Str × Str)}, GoodPs ns goal ps → ∀ p ∈ ps, okP p := fun h p hp => ⟨(hN _ (List.mem_cons_of_mem _ (h.a p hp))).lt, (hN _ (h.b p hp)).lt⟩
  apply ex_k
  · apply sj_parOO (i := 5) (j := 6) (by decide) en_nil en_nil
    rintro _ _ rfl rfl
    let dl : List (Str × Str) → List Lk → Dl := fun ps fs => [some (.val (.opq (.ref a))), some (.val (.lst (ns.map D.str))), some (.val (.str goal)), some (.val (.int (m : Int))), some (.val (.int wd)), some (.own (.lst (ps.map pairD))), some (.own (.lst (fs.map linkD))), none, none, none, none, none, none, none]
    apply sj_for (Inv := fun _ t δ' => ∃ ps, δ' = dl ps [] ∧ ps.length ≤ t ∧ GoodPs ns goal ps ∧ ∀ p ∈ ps, p.1 ∈ ns.take t) (Br := fun _ => False) (N := 26)
    · exact ij_enum (eda_cons (ed_var rfl) eda_nil)
    · rintro _ rfl
      simp [enumD]; omega
    · rintro _ rfl
      exact ⟨[], rfl, Nat.le_refl _, ⟨List.nodup_nil, by simp, by simp, by simp⟩, by simp⟩
    · rintro _ t d _ rfl hd ⟨ps, rfl, hps, hgp, htk⟩
      obtain ⟨y, hy, rfl⟩ := enumD_get hd
      rw [List.getElem?_map] at hy
      obtain ⟨nm, hnm, rfl⟩ : ∃ nm, ns[t]? = some nm ∧ y = .str nm := by
        cases z : ns[t]? with
        | none => rw [z] at hy; cases hy
        | some nm => rw [z] at hy; exact ⟨nm, rfl, (Option.some.inj hy).symm⟩
      have hmem : nm ∈ ns := List.mem_of_getElem? hnm
      have ht : t < ns.length := (List.getElem?_eq_some_iff.mp hnm).1
      have hne : goal ≠ nm := fun e => hg (by rw [e]; exact hmem)
      refine ⟨_, gj_tup (gsj_cons gj_name (gsj_cons gj_name gsj_nil)) rfl, ?_⟩
      have ecut : cutD (ns.map D.str) none (some (t : Int)) = (ns.take t).map D.str := by rw [cut_to (by omega), List.map_take]; rfl
      apply sj_set (P := fun d => ∃ os : List Str, d = .lst (os.map D.str) ∧ goal ∈ os ∧ (∀ o ∈ os, o ∈ goal :: ns) ∧ os.length ≤ 27)
      · apply ej_if (PT := fun _ => True)
        · apply et_test
          exact ej_op (P2 := (· = .int 0)) (ej_take rfl (ed_var rfl) ed_int (by decide) (by decide)) (fun _ _ => ed_int) fun x y hx hy => by
            obtain ⟨r, rfl, _⟩ := hx
            subst hy
            exact ⟨_, ⟨_, rfl, trivial⟩, rj_B0⟩
        · intro _
          refine ej_ex (d := .lst ([D.str goal] ++ (ns.take t).map D.str)) (EN.ej (en_catE (ed_lst (eda_cons (ed_var rfl) eda_nil) (by show 1 ≤ 1000000; decide)) ?_ ?_)) ⟨goal :: ns.take t, rfl, by simp, fun o ho => ?_, ?_⟩
          · rw [← ecut]
            exact EN.ej (en_sl (ed_var rfl) eo_none (eo_some (ed_var rfl)))
          · rw [List.length_map, List.length_take]
            show 1 + min t ns.length ≤ _
            omega
          · rcases List.mem_cons.mp ho with rfl | ho
            · exact List.mem_cons_self ..
            · exact List.mem_cons_of_mem _ (List.mem_of_mem_take ho)
          · rw [List.length_cons, List.length_take]; omega
        · intro _
          refine ej_ex (d := .lst ([D.str goal] ++ ns.map D.str)) (EN.ej (en_catE (ed_lst (eda_cons (ed_var rfl) eda_nil) (by show 1 ≤ 1000000; decide)) (ed_var rfl) ?_)) ⟨goal :: ns, rfl, by simp, fun o ho => ho, ?_⟩
          · rw [List.length_map]
            show 1 + ns.length ≤ _
            omega
          · rw [List.length_cons]; omega
      rintro _ ⟨os, rfl, hgo, hos, hol⟩
      apply sj_last
      apply sj_ifs (PT := fun _ => True)
      · apply et_test
        exact ej_op (P2 := (· = .int 0)) (ej_take rfl (ed_var rfl) ed_int (by decide) (by decide)) (fun _ _ => ed_int) fun x y hx hy => by
          obtain ⟨r, rfl, _⟩ := hx
          subst hy
          exact ⟨_, ⟨_, rfl, trivial⟩, rj_B0⟩
      · intro _
        have hfg : goal ∈ os.filter fun o => !decide (o = nm) := List.mem_filter.mpr ⟨hgo, by simp [hne]⟩
        have hfl : (os.filter fun o => !decide (o = nm)).length ≤ 27 := Nat.le_trans (List.length_filter_le _ _) hol
        apply sj_app (i := 5) (P := fun d => ∃ o, d = pairD (nm, o) ∧ o ∈ goal :: ns ∧ nm ≠ o) rfl
        · apply ej_tup (PA := fun ds => ∃ o, ds = [.str nm, .str o] ∧ o ∈ goal :: ns ∧ nm ≠ o)
          · apply ea_cons (P1 := (· = .str nm)) (PR := fun ds => ∃ o, ds = [.str o] ∧ o ∈ goal :: ns ∧ nm ≠ o) (ed_var rfl)
            · intro _ _
              apply ea_cons (P1 := fun d => ∃ o, d = .str o ∧ o ∈ goal :: ns ∧ nm ≠ o) (PR := (· = []))
              · refine (ej_ofL (l := (os.filter fun o => !decide (o = nm)).map D.str) rfl (ed_var rfl) ?_ ?_ ?_).mono (Nat.le_refl _) fun d hd => ?_
                · apply EN.ej
                  refine (en_lcE (L := [11]) (ds := os.map D.str) (p := fun d => match d with | .str o => !decide (o = nm) | _ => false) (f := fun d => d) (ij_list (ed_var rfl)) (fun i h => h) (by rw [List.length_map]; omega) (fun d _ => gj_name) (fun d hd => ?_) (fun d hd hp => ed_var rfl)).mono (Nat.le_refl _) fun r e => ?_
                  · obtain ⟨o, _, rfl⟩ := List.mem_map.mp hd
                    exact eb_test (ed_op (ed_var rfl) (ed_var rfl) rj_neS)
                  · rw [e, List.filter_map, List.map_map]
                    rfl
                · rw [List.length_map]
                  exact List.length_pos_of_mem hfg
                · rw [List.length_map]; omega
                · obtain ⟨o, ho, rfl⟩ := List.mem_map.mp hd
                  obtain ⟨ho1, ho2⟩ := List.mem_filter.mp ho
                  refine ⟨o, rfl, hos o ho1, fun e => ?_⟩
                  rw [e] at ho2
                  simp at ho2
              · intro _ _
                exact eda_nil
              · rintro _ _ ⟨o, rfl, h⟩ rfl
                exact ⟨o, rfl, h⟩
            · rintro _ _ rfl ⟨o, rfl, h⟩
              exact ⟨o, rfl, h⟩
          · rintro _ ⟨o, rfl, _⟩
            show 2 ≤ 1000000
            decide
          · rintro _ ⟨o, rfl, h⟩
            exact ⟨o, rfl, h⟩
        · rw [List.length_map]; omega
        rintro _ ⟨o, rfl, ho, hno⟩
        refine sj_nextW (δ' := dl (ps ++ [(nm, o)]) []) ?_ ?_
        · show Fewer [_, _, _, _, _, some (.own (.lst ((ps ++ [(nm, o)]).map pairD))), _, _, _, _, _, _, _, _] _
          rw [List.map_append]
          exact .keep (.keep (.keep (.keep (.keep (.keep (.keep (.drop (.drop (.keep (.keep (.keep (.drop (.keep .nil)))))))))))))
        · refine ⟨_, rfl, by rw [List.length_append]; show ps.length + 1 ≤ t + 1; omega, hgp.snoc hmem ho hno fun hx => not_take hnd hnm (htk _ hx), fun p hp => ?_⟩
          rw [take_snoc hnm, List.mem_append]
          rw [List.mem_append, List.mem_singleton] at hp
          rcases hp with hp | rfl
          · exact .inl (htk p hp)
          · exact .inr (List.mem_singleton.mpr rfl)
      · intro _
        apply sj_nexts
        refine sj_nextW (δ' := dl ps []) (.keep (.keep (.keep (.keep (.keep (.keep (.keep (.drop (.drop (.keep (.keep (.keep (.drop (.keep .nil)))))))))))))) ⟨ps, rfl, by omega, hgp, fun p hp => ?_⟩
        rw [take_snoc hnm, List.mem_append]
        exact .inl (htk p hp)
    · rintro _ _ rfl (⟨ps, rfl, hps, hgp, htk⟩ | z)
      rotate_left
      · exact z.elim
      have hps' : ps.length ≤ 26 := by
        simp [enumD] at hps
        omega
      clear htk hps
      apply sj_for (Inv := fun _ t δ' => ∃ ps, δ' = dl ps [] ∧ ps.length ≤ 26 + t ∧ GoodPs ns goal ps) (Br := fun _ => False) (N := 100)
      · exact ij_range1 (ed_cb (eda_cons ed_int (eda_cons (ed_op (ed_var rfl) (ej_peek 5 rfl (ed_cb (eda_cons (ed_var rfl) eda_nil) cj_len) (fun d e => by subst e; rfl)) rj_I0) eda_nil)) cj_max2) ⟨by split <;> omega, by split <;> omega⟩
      · rintro _ rfl
        rw [List.length_map, List.length_range]
        split <;> omega
      · rintro _ rfl
        exact ⟨ps, rfl, by omega, hgp⟩
      · rintro ds t d _ hds hd ⟨ps, rfl, hps, hgp⟩
        have ht : t < 100 := by
          subst hds
          have := (List.getElem?_eq_some_iff.mp hd).1
          rw [List.length_map, List.length_range] at this
          split at this <;> omega
        refine ⟨_, gj_name, ?_⟩
        apply sj_par (PA := fun ds => ∃ x y, ds = [.str x, .str y] ∧ x ∈ ns ∧ y ∈ ns ++ [goal])
        · apply ea_cons (P1 := fun d => ∃ x, d = .str x ∧ x ∈ ns) (PR := fun ds => ∃ y, ds = [.str y] ∧ y ∈ ns ++ [goal])
          · exact (ej_ofL (l := ns.map D.str) rfl (ed_var rfl) (ed_var rfl) (by rw [List.length_map]; omega) (by rw [List.length_map]; omega)).mono (Nat.le_refl _) fun d hd => by
              obtain ⟨x, hx, rfl⟩ := List.mem_map.mp hd
              exact ⟨x, rfl, hx⟩
          · intro _ _
            apply ea_cons (P1 := fun d => ∃ y, d = .str y ∧ y ∈ ns ++ [goal]) (PR := (· = []))
            · exact (ej_ofL (l := ns.map D.str ++ [D.str goal]) rfl (ed_var rfl) (EN.ej (en_catE (ed_var rfl) (ed_lst (eda_cons (ed_var rfl) eda_nil) (by show 1 ≤ 1000000; decide)) (by rw [List.length_map]; show ns.length + 1 ≤ _; omega))) (by rw [List.length_append]; show 0 < _ + 1; omega) (by rw [List.length_append, List.length_map]; show ns.length + 1 < _; omega)).mono (Nat.le_refl _) fun d hd => by
                rw [List.mem_append, List.mem_singleton] at hd
                rcases hd with hd | rfl
                · obtain ⟨x, hx, rfl⟩ := List.mem_map.mp hd
                  exact ⟨x, rfl, List.mem_append_left _ hx⟩
                · exact ⟨goal, rfl, by simp⟩
            · intro _ _
              exact eda_nil
            · rintro _ _ ⟨y, rfl, h⟩ rfl
              exact ⟨y, rfl, h⟩
          · rintro _ _ ⟨x, rfl, h⟩ ⟨y, rfl, h'⟩
            exact ⟨x, y, rfl, h, h'⟩
        rintro _ ⟨x, y, rfl, hx, hy⟩
        refine ⟨_, _, rfl, ?_⟩
        have hy' : y ∈ goal :: ns := by
          rw [List.mem_append, List.mem_singleton] at hy
          rcases hy with hy | rfl
          · exact List.mem_cons_of_mem _ hy
          · exact List.mem_cons_self ..
        apply sj_last
        apply sj_ifs (PT := fun b => b = (!decide (x = y) && !decide ((x, y) ∈ ps)))
        · apply eb_and
          · exact eb_test (ed_op (ed_var rfl) (ed_var rfl) rj_neS)
          · intro _
            apply et_peek 5 rfl
            exact eb_test (ed_op (ed_tup (eda_cons (ed_var rfl) (eda_cons (ed_var rfl) eda_nil)) (by show 2 ≤ 1000000; decide)) (ed_var rfl) (rj_pairNotin (p := (x, y)) ⟨(hN _ (List.mem_cons_of_mem _ hx)).lt, (hN _ hy').lt⟩ (okOf hgp)))
        · intro e
          have e' := e.symm
          simp only [Bool.and_eq_true, Bool.not_eq_true', decide_eq_false_iff_not] at e'
          apply sj_app (i := 5) (P := (· = pairD (x, y))) rfl
          · exact ed_tup (eda_cons (ed_var rfl) (eda_cons (ed_var rfl) eda_nil)) (by show 2 ≤ 1000000; decide)
          · rw [List.length_map]; omega
          rintro _ rfl
          refine sj_nextW (δ' := dl (ps ++ [(x, y)]) []) ?_ ?_
          · show Fewer [_, _, _, _, _, some (.own (.lst ((ps ++ [(x, y)]).map pairD))), _, _, _, _, _, _, _, _] _
            rw [List.map_append]
            exact .keep (.keep (.keep (.keep (.keep (.keep (.keep (.keep (.keep (.drop (.drop (.drop (.keep (.keep .nil)))))))))))))
          · exact ⟨_, rfl, by rw [List.length_append]; show ps.length + 1 ≤ 26 + (t + 1); omega, hgp.snoc hx hy' e'.1 e'.2⟩
        · intro _
          apply sj_nexts
          exact sj_nextW (δ' := dl ps []) (.keep (.keep (.keep (.keep (.keep (.keep (.keep (.keep (.keep (.drop (.drop (.drop (.keep (.keep .nil)))))))))))))) ⟨ps, rfl, by omega, hgp⟩
      · rintro ds _ hds (⟨ps, rfl, hps, hgp⟩ | z)
        rotate_left
        · exact z.elim
        have hps' : ps.length ≤ 126 := by
          subst hds
          rw [List.length_map, List.length_range] at hps
          split at hps <;> omega
        clear hps hds ds
        apply sj_frz 5 rfl
        let dm : List Lk → Dl := fun fs => [some (.val (.opq (.ref a))), some (.val (.lst (ns.map D.str))), some (.val (.str goal)), some (.val (.int (m : Int))), some (.val (.int wd)), some (.val (.lst (ps.map pairD))), some (.own (.lst (fs.map linkD))), none, none, none, none, none, none, none]
        apply sj_for (Inv := fun ds t δ' => ∃ fs : List Lk, δ' = dm fs ∧ fs.map (fun l => pairD (endsOf l)) = ds.take t ∧ fs.length = t ∧ (∀ l ∈ fs, 1 ≤ l.2.2.1 ∧ l.2.2.1 ≤ 6) ∧ ∀ l ∈ fs, 0 ≤ l.2.2.2 ∧ l.2.2.2 ≤ wd) (Br := fun _ => False) (N := 126)
        · apply ij_listP (PL := fun ds => ∃ qs : List (Str × Str), ds = qs.map pairD ∧ qs.Perm ps)
          apply ej_call (PA := (· = [.opq (.ref a), .lst (ps.map pairD), .int ((ps.map pairD).length : Nat)])) (eda_cons (ed_var rfl) (eda_cons (ed_var rfl) (eda_cons (ed_cb (eda_cons (ed_var rfl) eda_nil) cj_len) eda_nil)))
          · rintro _ rfl
            exact ⟨rfl, a, _, _, rfl, rfl, Nat.le_refl _, by rw [List.length_map]; omega⟩
          · rintro _ d rfl hd
            obtain ⟨rs, rest, rfl, h1, h2⟩ := hd _ _ _ rfl
            have h3 := h2.length_eq
            rw [List.length_append, h1] at h3
            have h4 : rest = [] := List.eq_nil_of_length_eq_zero (by omega)
            subst h4
            rw [List.append_nil] at h2
            obtain ⟨qs, e1, e2⟩ := perm_pairs h2
            exact ⟨rs, rfl, qs, e1, e2⟩
        · rintro _ ⟨qs, rfl, hq⟩
          rw [List.length_map, hq.length_eq]; exact hps'
        · rintro _ ⟨qs, rfl, hq⟩
          exact ⟨[], rfl, rfl, rfl, by simp, by simp⟩
        · rintro _ t d _ ⟨qs, rfl, hq⟩ hd ⟨fs, rfl, hfs, hfl, hr, htm⟩
          have hd0 := hd
          rw [List.getElem?_map] at hd
          obtain ⟨q, hq2, rfl⟩ : ∃ q, qs[t]? = some q ∧ d = pairD q := by
            cases z : qs[t]? with
            | none => rw [z] at hd; cases hd
            | some q => rw [z] at hd; exact ⟨q, rfl, (Option.some.inj hd).symm⟩
          have ht : t < 126 := by
            have := (List.getElem?_eq_some_iff.mp hq2).1
            rw [hq.length_eq] at this
            omega
          refine ⟨_, gj_tup (gsj_cons gj_name (gsj_cons gj_name gsj_nil)) rfl, ?_⟩
          apply sj_set (P := fun d => ∃ k, d = .int k ∧ 0 ≤ k ∧ k ≤ wd)
          · exact ej_intOf rfl (ed_var rfl) (eai_cons (ej_in ed_int (by omega) (by omega)) (eai_cons (ej_in (ed_var rfl) (by omega) (by omega)) (eai_cons (ej_1take rfl (ed_var rfl) (ed_var rfl) (by omega) (by omega) (by decide) (by omega)) (eai_cons (ej_1take rfl (ed_var rfl) (ed_var rfl) (by omega) (by omega) (by decide) (by omega)) eai_nil)))) (by decide)
          rintro _ ⟨k, rfl, k0, k1⟩
          apply sj_last
          apply sj_app (i := 6) (P := fun d => ∃ r, d = linkD (q.1, q.2, r, k) ∧ 1 ≤ r ∧ r ≤ 6) rfl
          · apply ej_tup (PA := fun ds => ∃ r, ds = [.str q.1, .str q.2, .int r, .int k] ∧ 1 ≤ r ∧ r ≤ 6)
            · apply ea_cons (P1 := (· = .str q.1)) (PR := fun ds => ∃ r, ds = [.str q.2, .int r, .int k] ∧ 1 ≤ r ∧ r ≤ 6) (ed_var rfl)
              · intro _ _
                apply ea_cons (P1 := (· = .str q.2)) (PR := fun ds => ∃ r, ds = [.int r, .int k] ∧ 1 ≤ r ∧ r ≤ 6) (ed_var rfl)
                · intro _ _
                  apply ea_cons (P1 := fun d => ∃ r, d = .int r ∧ 1 ≤ r ∧ r ≤ 6) (PR := (· = [.int k]))
                  · exact ej_intOf rfl (ed_var rfl) (eai_cons (ej_in ed_int (by decide) (by decide)) (eai_cons (ej_in ed_int (by decide) (by decide)) (eai_cons (ej_in ed_int (by decide) (by decide)) (eai_cons (ej_in ed_int (by decide) (by decide)) (eai_cons (ej_1take rfl (ed_var rfl) ed_int (by decide) (by decide) (by decide) (by decide)) eai_nil))))) (by decide)
                  · intro _ _
                    exact eda_cons (ed_var rfl) eda_nil
                  · rintro _ _ ⟨r, rfl, h⟩ rfl
                    exact ⟨r, rfl, h⟩
                · rintro _ _ rfl ⟨r, rfl, h⟩
                  exact ⟨r, rfl, h⟩
              · rintro _ _ rfl ⟨r, rfl, h⟩
                exact ⟨r, rfl, h⟩
            · rintro _ ⟨r, rfl, _⟩
              show 4 ≤ 1000000
              decide
            · rintro _ ⟨r, rfl, h⟩
              exact ⟨r, rfl, h⟩
          · rw [List.length_map]; omega
          rintro _ ⟨r, rfl, r0, r1⟩
          refine sj_nextW (δ' := dm (fs ++ [(q.1, q.2, r, k)])) ?_ ?_
          · show Fewer [_, _, _, _, _, _, some (.own (.lst ((fs ++ [(q.1, q.2, r, k)]).map linkD))), _, _, _, _, _, _, _] _
            rw [List.map_append]
            exact .keep (.keep (.keep (.keep (.keep (.keep (.keep (.keep (.keep (.keep (.drop (.drop (.keep (.drop .nil)))))))))))))
          · refine ⟨_, rfl, ?_, by rw [List.length_append, hfl]; rfl, fun l hl => ?_, fun l hl => ?_⟩
            · rw [List.map_append, hfs, take_snoc hd0]
              rfl
            · rw [List.mem_append, List.mem_singleton] at hl
              rcases hl with hl | rfl
              · exact hr l hl
              · exact ⟨r0, r1⟩
            · rw [List.mem_append, List.mem_singleton] at hl
              rcases hl with hl | rfl
              · exact htm l hl
              · exact ⟨k0, k1⟩
        · rintro _ _ ⟨qs, rfl, hq⟩ (⟨fs, rfl, hfs, hfl, hr, htm⟩ | z)
          rotate_left
          · exact z.elim
          apply sj_frz 6 rfl
          apply sj_retP (ed_var rfl)
          rintro _ rfl
          refine .inl ⟨_, rfl, fun a' ns' goal' m' wd' e => ?_⟩
          simp only [List.cons.injEq, D.lst.injEq, D.str.injEq, D.int.injEq, and_true] at e
          obtain ⟨_, e1, e2, _, e4⟩ := e
          have := strs_inj e1
          subst this e2 e4
          rw [List.take_length] at hfs
          have hends : fs.map endsOf = qs := by
            have := congrArg (fun l : List D => l.map unpair) hfs
            simp only [List.map_map] at this
            have e5 : fs.map (unpair ∘ fun l => pairD (endsOf l)) = fs.map endsOf := List.map_congr_left fun l _ => rfl
            have e6 : qs.map (unpair ∘ pairD) = qs := by
              have : qs.map (unpair ∘ pairD) = qs.map id := List.map_congr_left fun l _ => rfl
              rw [this, List.map_id]
            rw [e5, e6] at this
            exact this
          refine ⟨fs, rfl, ?_, hr, htm⟩
          rw [hends]
          exact ⟨hq.nodup_iff.mpr hgp.nd, fun p hp => hgp.a p (hq.mem_iff.mp hp), fun p hp => hgp.b p (hq.mem_iff.mp hp), fun p hp => hgp.ne p (hq.mem_iff.mp hp)⟩
  · decide
end
end DN

namespace DN
open PySem PySem.Spec PyProof.Rows L2
variable [Tb]
section
variable {K : PySem.W.Frag}
theorem rj_neNil {ds : List D} (h1 : seqL ds = true) (h2 : SeqAt.shaped (.list (pyL ds)) = true) : RJ K (rNeD K) (.lst ds) (.lst []) (.bl (!ds.isEmpty)) := .mk fun x y G H Q hx hy s q => by
  have a1 := at_dp (hx.mono s) (show seqL ds = true from h1)
  have a2 := at_dp (hy.mono s) (show seqL [] = true from rfl)
  refine ⟨_, _, a1, a2, h2, by simp [py, pyL, SeqAt.shaped, PyData.canLay0, PyData.canLayAll0, PyData.depth, PyData.depthAll], ?_⟩
  have e : PyData.eqv (py (.lst ds)) (py (.lst [])) = ds.isEmpty := by
    cases ds <;> simp [py, pyL, PyData.eqv, PyData.eqvAll]
  rw [e]
  exact q _ G H (Gd.refl s) (.bl _)
theorem shaped_flat {ds : List D} (h : ∀ d ∈ ds, (py d).canLay0 = true ∧ (py d).depth = 0) : SeqAt.shaped (.list (pyL ds)) = true := by
  have e : pyL ds = ds.map fun d => py d := by
    have := pyL_map (fun d : D => d) ds
    rwa [List.map_id'] at this
  unfold SeqAt.shaped
  rw [e, PyData.canLay0, PyData.depth]
  rw [lay_all fun x hx => by
    obtain ⟨d, hd, rfl⟩ := List.mem_map.mp hx
    exact (h d hd).1]
  have : PyData.depthAll (ds.map fun d => py d) ≤ 0 := deep_all fun x hx => by
    obtain ⟨d, hd, rfl⟩ := List.mem_map.mp hx
    exact Nat.le_of_eq (h d hd).2
  rw [Bool.true_and, decide_eq_true_eq]
  omega
theorem shaped_strs {ss : List Str} (h : ∀ s ∈ ss, letters s) : SeqAt.shaped (.list (pyL (ss.map D.str))) = true := shaped_flat fun d hd => by
  obtain ⟨s, hs, rfl⟩ := List.mem_map.mp hd
  have := (h s hs).ok
  simp [py, PyData.canLay0, PyData.depth, this]
theorem shaped_ints (ns : List Int) : SeqAt.shaped (.list (pyL (ns.map D.int))) = true := shaped_flat fun d hd => by
  obtain ⟨s, hs, rfl⟩ := List.mem_map.mp hd
  simp [py, PyData.canLay0, PyData.depth]
end
/-! roads -/
abbrev Rd' := List (Str × List Int)
def roadsD (rd : Rd') : List (Key × D) := rd.map fun p => (.inr p.1, .lst (p.2.map D.int))
def lkp (rd : Rd') (k : Str) : Option (List Int) := (rd.find? fun p => decide (p.1 = k)).map (·.2)
theorem get_road {k : Str} : ∀ {rd : Rd'}, getD' (roadsD rd) (.inr k) = (lkp rd k).map fun w => D.lst (w.map D.int)
  | [] => rfl
  | (k', w) :: r => by
    have ih := get_road (k := k) (rd := r)
    by_cases h : k' = k
    · subst h; simp [roadsD, lkp, getD']
    · have e1 : getD' (roadsD ((k', w) :: r)) (.inr k) = getD' (roadsD r) (.inr k) := by simp [roadsD, getD', h]
      have e2 : lkp ((k', w) :: r) k = lkp r k := by simp [lkp, h]
      rw [e1, e2, ih]
theorem lkp_mem {k : Str} {w : List Int} : ∀ {rd : Rd'}, lkp rd k = some w → (k, w) ∈ rd
  | [], e => by cases e
  | (k', w') :: r, e => by
    by_cases h : k' = k
    · subst h
      have : w' = w := by simpa [lkp] using e
      rw [this]; exact List.mem_cons_self ..
    · have e2 : lkp ((k', w') :: r) k = lkp r k := by simp [lkp, h]
      rw [e2] at e
      exact List.mem_cons_of_mem _ (lkp_mem e)
theorem lkp_key {k : Str} : ∀ {rd : Rd'}, (lkp rd k).isSome = decide (k ∈ rd.map (·.1))
  | [] => by simp [lkp]
  | (k', w') :: r => by
    have ih := lkp_key (k := k) (rd := r)
    by_cases h : k' = k
    · subst h; simp [lkp]
    · have e2 : lkp ((k', w') :: r) k = lkp r k := by simp [lkp, h]
      have h' : k ≠ k' := fun e => h e.symm
      rw [e2, ih]
      simp [h']
theorem put_road {rd : Rd'} {k : Str} {w : List Int} (h : k ∉ rd.map (·.1)) : putD (roadsD rd) (.inr k) (.lst (w.map D.int)) = roadsD (rd ++ [(k, w)]) := by
  have e : (roadsD rd).any (fun e => decide (e.1 = Sum.inr k)) = false := by
    rw [List.any_eq_false]
    intro x hx
    obtain ⟨y, hy, rfl⟩ := List.mem_map.mp hx
    simp
    intro e
    exact h (by rw [← e]; exact List.mem_map.mpr ⟨y, hy, rfl⟩)
  unfold putD
  rw [e]
  simp [roadsD]
/-- a place of a link that has room left -/
def wayAt (lf : List Int) (x : Int) : Prop := ∃ (n : Nat) (z : Int), x = (n : Int) ∧ lf[n]? = some z ∧ 0 < z
structure GoodRd (ls : List Lk) (lf : List Int) (nm : Str) (rd : Rd') : Prop where
  nd : (rd.map (·.1)).Nodup
  sub : ∀ k ∈ rd.map (·.1), k = nm ∨ k ∈ ls.map fun l => l.2.1
  len : ∀ p ∈ rd, p.2.length < rd.length
  ok : ∀ p ∈ rd, ∀ x ∈ p.2, wayAt lf x
theorem GoodRd.le {ls : List Lk} {lf : List Int} {nm : Str} {rd : Rd'} (h : GoodRd ls lf nm rd) : rd.length ≤ ls.length + 1 := by
  have : (rd.map (·.1)).length ≤ (nm :: ls.map fun l => l.2.1).length := List.Nodup.length_le_of_subset h.nd fun k hk => by
    rcases h.sub k hk with rfl | hk
    · exact List.mem_cons_self ..
    · exact List.mem_cons_of_mem _ hk
  simpa using this
def goodWay (lf : List Int) (d : D) : Prop := ∃ way : List Int, d = .lst (way.map D.int) ∧ way.length ≤ 2000 ∧ ∀ x ∈ way, wayAt lf x
def spWay (K : PySem.W.Frag) : Sp := fun vs H Q _ => ∃ (G : Hp) (es : List (Key × D)) (ls : List Lk) (goal nm : Str) (lf : List Int) (v1 : V) (p : Addr), vs = [v1, .ref p, .str nm] ∧ Same G H ∧ At K G v1 (.dct es) ∧ getD' es (.inr "links") = some (.lst (ls.map linkD)) ∧ getD' es (.inr "goal") = some (.str goal) ∧
  H p = some (.lst (lf.map V.int)) ∧ G p = none ∧ lf.length = ls.length ∧ ls.length ≤ 1000 ∧ (∀ l ∈ ls, letters l.2.1) ∧ letters nm ∧ PotS .none 0 H ∧ ∀ d v G' H', goodWay lf d → Gd .none G H G' H' → At K G' v d → Q v H'
theorem ij_enumP {ρ : Rh} {K : PySem.W.Frag} {δ : Dl} {tA : TA} {ds : List D} (h : EDA ρ K tA δ [.lst ds]) : IJ ρ K (iEnum K tA) δ 0 (· = enumD ds) := ij_enum h
section
variable {P : Program} {w : World} {K : PySem.W.Frag} {mg : Str → Option Value} {base : Heap}
theorem ok_way {f : Addr} {fd : FuncData} (F : Fun K "_law_way_home" "_law_way_home" s__law_way_home f fd) (T2 : mg "enumerate" = none) : FnOk P w K mg base CX0 1 f fd ["own", "left", "name"] (spWay K) := by
  refine F.ok sc__law_way_home (fun vs H Q E h => ?_) (fun cdv A outer s H vs Q E hr h => ?_)
  · obtain ⟨G, es, ls, goal, nm, lf, v1, p, rfl, _⟩ := h
    rfl
  obtain ⟨G, es, ls, goal, nm, lf, v1, p, rfl, hs, hv1, hli, hgo, hp, hgp, hlf, hls, hlt, hnm, hP, q⟩ := h
  refine ⟨_, (pss_cons (ps_par (i := 3) (j := 4) (by rfl) sc__law_way_home.nd rfl rfl (by decide) rfl rfl (pa_cons (pe_disp (pps_cons (pv 2) (pe_lst pa_nil) pps_nil) (by rfl) (by rfl) (fun z => by cases z) (by decide)) (pa_cons (pe_lst (pa_cons (pv 2) pa_nil)) pa_nil)) (by rfl))
 (pss_cons (ps_while PassesOwn.never (pt_cmpR (op_neD hr.units) (pv 4) (pe_lst pa_nil) (by first | exact nomark _ | rfl)) (pss_cons (ps_set (i := 5) sc__law_way_home.nd rfl (by first | exact Or.inl rfl | exact Or.inr rfl) (pe_lst pa_nil))
 (pss_cons (ps_for PassesOwn.never rfl (pi_list (pv 4)) (pg_name (i := 6) sc__law_way_home.nd rfl (by first | exact Or.inl rfl | exact Or.inr rfl))
  (pss_one (ps_for PassesOwn.never rfl (pi_enum (by rfl) T2 (pa_cons (pe_dget (hu_of hr) (pv 0) pe_str (fun _ _ => rfl)) pa_nil)) (pg_tup rfl (pgs_cons (pg_name (i := 7) sc__law_way_home.nd rfl (by first | exact Or.inl rfl | exact Or.inr rfl)) (pgs_cons (pg_name (i := 8) sc__law_way_home.nd rfl (by first | exact Or.inl rfl | exact Or.inr rfl)) pgs_nil)))
  (pss_one (ps_if (PW.pt (pw_and (pt_cmpR op_eq (pe_ix ix_tup (pv 8) pe_int (fun _ _ => rfl)) (pv 6) (by first | exact nomark _ | rfl)) (pw_and (pt_cmpR op_gt (pe_ix ix_list (pv 1) (pv 7) (fun _ _ => rfl)) pe_int (by first | exact nomark _ | rfl)) (pw_and1 (pt_cmp (pc_dnotin (hu_of hr) (pe_ix ix_tup (pv 8) pe_int (fun _ _ => rfl)) (pv 3))))))) (pss_cons (ps_dput (hu_of hr) (pv 3) (pe_ix ix_tup (pv 8) pe_int (fun _ _ => rfl)) (pe_op op_cat (pe_dget (hu_of hr) (pv 3) (pv 6) (fun _ _ => rfl)) (pe_lst (pa_cons (pv 7) pa_nil))) rfl)
 (pss_one (ps_expr (pe_bm PySem.F.plainAttrs_list PySem.F.slot_list_append PySem.F.type_list_append mt_append (pv 5) (pa_cons (pe_ix ix_tup (pv 8) pe_int (fun _ _ => rfl)) pa_nil))))) pss_nil)))))
 (pss_one (ps_set (i := 4) sc__law_way_home.nd rfl (by first | exact Or.inl rfl | exact Or.inr rfl) (pv 5))))))
 (pss_one (ps_ret (pe_dget2 (hu_of hr) (pv 3) (pe_dget (hu_of hr) (pv 0) pe_str (fun _ _ => rfl)) (pe_lst pa_nil) ⟨by rfl, by rfl, by rfl, by rfl⟩))))), ?_⟩
  try dsimp only [cxOf, Cx.nox, Cx.wish]
  have wf : Wf .none K G H G H (L2.start ["own", "left", "name", "roads", "level", "later", "here", "at", "link"] [v1, .ref p, .str nm]) [some (.val (.dct es)), some (.lent (.lst (lf.map D.int))), some (.val (.str nm)), none, none, none, none, none, none] 0 := by
    refine ⟨rfl, Gd.refl hs, hP, fun a e => absurd e fxN, fun i s e => ?_, fun i j d e n h1 h2 => ?_⟩
    · match i, e with
      | 0, e => cases e; exact ⟨_, rfl, hv1⟩
      | 1, e => cases e; exact ⟨_, rfl, p, _, rfl, hp, .lst (atL_ints lf), hgp, ne_none_of hp, fxN⟩
      | 2, e => cases e; exact ⟨_, rfl, .str _⟩
      | 3, e => cases e
      | 4, e => cases e
      | 5, e => cases e
      | 6, e => cases e
      | 7, e => cases e
      | 8, e => cases e
      | n + 9, e => simp at e
    · match i, h1 with
      | 0, h1 => cases h1
      | 1, h1 => cases h1
      | 2, h1 => cases h1
      | 3, h1 => cases h1
      | 4, h1 => cases h1
      | 5, h1 => cases h1
      | 6, h1 => cases h1
      | 7, h1 => cases h1
      | 8, h1 => cases h1
      | n + 9, h1 => simp at h1
  refine sj_run (ρ := .none) (K := K) (E := E) (k := 0) (PO := fun o => ∃ d, o = .rt d ∧ goodWay lf d) ?_ wf (by decide) (fun o po => ?_)
  rotate_left
  · obtain ⟨d, rfl, hd⟩ := po
    exact fun v G' H' m' g p l hv => q d v G' H' hd g hv
  let dl : Rd' → List Str → Dl := fun rd lev => [some (.val (.dct es)), some (.lent (.lst (lf.map D.int))), some (.val (.str nm)), some (.own (.dct (roadsD rd))), some (.val (.lst (lev.map D.str))), none, none, none, none]
  apply sj_le
  · apply sj_parOV (i := 3) (j := 4) (by decide) (ed_disp (x := .inr nm) (ed_var rfl) (ed_lst eda_nil (by decide))) (ed_lst (eda_cons (ed_var rfl) eda_nil) (by show 1 ≤ 1000000; decide))
    rintro _ _ ⟨d, rfl, rfl⟩ rfl
    apply sj_while (Inv := fun n δ' => ∃ rd lev, δ' = dl rd lev ∧ GoodRd ls lf nm rd ∧ (∀ k ∈ lev, k ∈ rd.map (·.1)) ∧ n = if lev = [] then 0 else 1 + (ls.length + 1 - rd.length))
    · exact ⟨_, [(nm, [])], [nm], rfl, ⟨by simp, by simp, by simp, by simp⟩, by simp, rfl⟩
    rintro n _ ⟨rd, lev, rfl, hrd, hlev, hn⟩
    have hlet : ∀ k ∈ rd.map (·.1), letters k := fun k hk => by
      rcases hrd.sub k hk with rfl | hk
      · exact hnm
      · obtain ⟨l, hl, rfl⟩ := List.mem_map.mp hk
        exact hlt l hl
    refine ⟨!(lev.map D.str).isEmpty, eb_test (ed_op (ed_var rfl) (ed_lst eda_nil (by decide)) (rj_neNil (seqL_map (fun _ => rfl) lev) (shaped_strs fun s hs => hlet s (hlev s hs)))), fun e => ?_, fun e => ?_⟩
    · apply sj_frz 3 rfl
      apply sj_retP (ed_dget2 (es := roadsD rd) (x := .inr goal) (ed_var rfl) (ed_dget (x := .inr "goal") (ed_var rfl) ed_str hgo) (ed_lst eda_nil (by decide)))
      rintro _ rfl
      refine ⟨_, rfl, ?_⟩
      rw [get_road]
      cases z : lkp rd goal with
      | none => exact ⟨[], rfl, Nat.zero_le _, by simp⟩
      | some wy =>
        have hm := lkp_mem z
        have h1 := hrd.len _ hm
        have h2 := hrd.le
        exact ⟨wy, rfl, by show wy.length ≤ 2000; have : wy.length < rd.length := h1; omega, hrd.ok _ hm⟩
    · have hne : lev ≠ [] := by
        rintro rfl
        cases e
      have hn' : n = 1 + (ls.length + 1 - rd.length) := by rw [hn, if_neg hne]
      let dm : Rd' → List Str → Dl := fun rd2 lt => [some (.val (.dct es)), some (.lent (.lst (lf.map D.int))), some (.val (.str nm)), some (.own (.dct (roadsD rd2))), some (.val (.lst (lev.map D.str))), some (.own (.lst (lt.map D.str))), none, none, none]
      let Mid : Dl → Prop := fun δ' => ∃ rd2 lt, δ' = dm rd2 lt ∧ GoodRd ls lf nm rd2 ∧ rd.length ≤ rd2.length ∧ (∀ k ∈ rd.map (·.1), k ∈ rd2.map (·.1)) ∧ (∀ k ∈ lt, k ∈ rd2.map (·.1)) ∧ (lt = [] ∨ rd.length < rd2.length) ∧ lt.length < rd2.length
      have hr0 : 0 < rd.length := by
        have h1 : 0 < lev.length := List.length_pos_iff.mpr hne
        obtain ⟨k, hk⟩ := List.exists_mem_of_length_pos h1
        have := List.length_pos_of_mem (hlev k hk)
        simpa using this
      apply sj_le
      · apply sj_new en_nil
        rintro _ rfl
        apply sj_for (Inv := fun _ t δ' => Mid δ') (Br := fun _ => False) (N := lev.length) (kb := 0)
        · exact ij_list (ed_var rfl)
        · rintro _ rfl
          rw [List.length_map]
          exact Nat.le_refl _
        · rintro _ rfl
          exact ⟨rd, [], rfl, hrd, Nat.le_refl _, fun k h => h, by simp, .inl rfl, hr0⟩
        · rintro _ t d _ rfl hd ⟨rd2, lt, rfl, hrd2, hle, hks, hlts, hor, hll⟩
          obtain ⟨here, hhere, rfl⟩ := List.mem_map.mp (List.mem_of_getElem? hd)
          refine ⟨_, gj_name, ?_⟩
          apply sj_last
          apply sj_le
          · let dn : Rd' → List Str → Dl := fun rd2 lt => [some (.val (.dct es)), some (.lent (.lst (lf.map D.int))), some (.val (.str nm)), some (.own (.dct (roadsD rd2))), some (.val (.lst (lev.map D.str))), some (.own (.lst (lt.map D.str))), some (.val (.str here)), none, none]
            apply sj_for (Inv := fun _ t δ' => ∃ rd2 lt, δ' = dn rd2 lt ∧ GoodRd ls lf nm rd2 ∧ rd.length ≤ rd2.length ∧ (∀ k ∈ rd.map (·.1), k ∈ rd2.map (·.1)) ∧ (∀ k ∈ lt, k ∈ rd2.map (·.1)) ∧ (lt = [] ∨ rd.length < rd2.length) ∧ lt.length < rd2.length) (Br := fun _ => False) (N := ls.length) (kb := 0)
            · exact ij_enum (eda_cons (ed_dget (x := .inr "links") (ed_var rfl) ed_str hli) eda_nil)
            · rintro _ rfl
              simp [enumD]
            · rintro _ rfl
              exact ⟨rd2, lt, rfl, hrd2, hle, hks, hlts, hor, hll⟩
            · rintro _ at' x _ rfl hx ⟨rd2, lt, rfl, hrd2, hle, hks, hlts, hor, hll⟩
              obtain ⟨y, hy, rfl⟩ := enumD_get hx
              rw [List.getElem?_map] at hy
              obtain ⟨l, hl, rfl⟩ : ∃ l, ls[at']? = some l ∧ y = linkD l := by
                cases z : ls[at']? with
                | none => rw [z] at hy; cases hy
                | some l => rw [z] at hy; exact ⟨l, rfl, (Option.some.inj hy).symm⟩
              have hlm : l ∈ ls := List.mem_of_getElem? hl
              have hat : at' < lf.length := by rw [hlf]; exact (List.getElem?_eq_some_iff.mp hl).1
              obtain ⟨z, hz⟩ : ∃ z, lf[at']? = some z := ⟨_, List.getElem?_eq_getElem hat⟩
              refine ⟨_, gj_tup (gsj_cons gj_name (gsj_cons gj_name gsj_nil)) rfl, ?_⟩
              apply sj_last
              apply sj_le
              · apply sj_ifs (PT := fun b => b = (decide (l.1 = here) && (decide (0 < z) && !decide (l.2.1 ∈ rd2.map (·.1))))) (k1 := 0)
                · apply eb_and
                  · exact eb_test (ed_op (ed_op (ed_var rfl) ed_int (rj_ixT rfl)) (ed_var rfl) rj_eqS)
                  · intro _
                    apply eb_and
                    · apply et_peekL 1 rfl rfl
                      exact eb_test (ed_op (ed_op (ed_var rfl) (ed_var rfl) (rj_ixL (d := .int z) (atI_nat (by rw [List.getElem?_map, hz]; rfl)))) ed_int rj_B0)
                    · intro _
                      apply et_peek 3 rfl
                      have e3 : (getD' (roadsD rd2) (.inr l.2.1)).isSome = decide (l.2.1 ∈ rd2.map (·.1)) := by rw [get_road, Option.isSome_map, lkp_key]
                      rw [← e3]
                      exact eb_B (ed_dnotin (x := .inr l.2.1) (ed_op (ed_var rfl) ed_int (rj_ixT rfl)) (ed_var rfl))
                · intro e
                  have e' := e.symm
                  simp only [Bool.and_eq_true, Bool.not_eq_true', decide_eq_false_iff_not, decide_eq_true_eq] at e'
                  obtain ⟨e1, e2, e3⟩ := e'
                  obtain ⟨wy, hwy⟩ : ∃ wy, lkp rd2 here = some wy := by
                    have : (lkp rd2 here).isSome = true := by rw [lkp_key, decide_eq_true_eq]; exact hks _ (hlev _ hhere)
                    exact Option.isSome_iff_exists.mp this
                  have hwm := lkp_mem hwy
                  have hwl : wy.length < rd2.length := hrd2.len _ hwm
                  have hr2 := hrd2.le
                  apply sj_assoc
                  apply sj_dput (i := 3) (x := .inr l.2.1) rfl (P := (· = .lst (wy.map D.int ++ [D.int (at' : Int)]))) (k1 := 0)
                  · apply EN.ej
                    apply en_catE
                    · exact ed_dgetO (x := .inr here) rfl (ed_var rfl) (by rw [get_road, hwy]; rfl)
                    · exact ed_lst (eda_cons (ed_var rfl) eda_nil) (by show 1 ≤ 1000000; decide)
                    · rw [List.length_map]
                      show wy.length + 1 ≤ _
                      omega
                  · exact ed_op (ed_var rfl) ed_int (rj_ixT rfl)
                  · simp [roadsD]; omega
                  rintro _ rfl
                  have e4 : (wy.map D.int ++ [D.int (at' : Int)]) = (wy ++ [(at' : Int)]).map D.int := by simp
                  rw [e4, put_road e3]
                  apply sj_app (i := 5) (P := (· = .str l.2.1)) (k1 := 0) rfl
                  · exact ed_op (ed_var rfl) ed_int (rj_ixT rfl)
                  · rw [List.length_map]; omega
                  rintro _ rfl
                  refine sj_nextW (δ' := dn (rd2 ++ [(l.2.1, wy ++ [(at' : Int)])]) (lt ++ [l.2.1])) ?_ ?_
                  · have : (lt ++ [l.2.1]).map D.str = lt.map D.str ++ [.str l.2.1] := by simp
                    show Fewer [_, _, _, _, _, some (.own (.lst ((lt ++ [l.2.1]).map D.str))), _, _, _] _
                    rw [this]
                    exact .keep (.keep (.keep (.keep (.keep (.keep (.keep (.drop (.drop .nil))))))))
                  · have hk : (rd2 ++ [(l.2.1, wy ++ [(at' : Int)])]).map (·.1) = rd2.map (·.1) ++ [l.2.1] := by simp
                    refine ⟨_, _, rfl, ⟨?_, ?_, ?_, ?_⟩, ?_, ?_, ?_, .inr ?_, ?_⟩
                    · rw [hk, List.nodup_append]
                      refine ⟨hrd2.nd, by simp, fun u hu v hv e => ?_⟩
                      rw [List.mem_singleton] at hv
                      subst hv
                      exact e3 (by rw [← e]; exact hu)
                    · intro k hk'
                      rw [hk, List.mem_append, List.mem_singleton] at hk'
                      rcases hk' with hk' | rfl
                      · exact hrd2.sub k hk'
                      · exact .inr (List.mem_map.mpr ⟨l, hlm, rfl⟩)
                    · intro p hp
                      rw [List.mem_append, List.mem_singleton] at hp
                      rw [List.length_append]
                      rcases hp with hp | rfl
                      · have := hrd2.len p hp
                        show p.2.length < rd2.length + 1
                        omega
                      · show (wy ++ [(at' : Int)]).length < rd2.length + 1
                        rw [List.length_append]
                        show wy.length + 1 < rd2.length + 1
                        omega
                    · intro p hp x hx
                      rw [List.mem_append, List.mem_singleton] at hp
                      rcases hp with hp | rfl
                      · exact hrd2.ok p hp x hx
                      · have hx' : x ∈ wy ++ [(at' : Int)] := hx
                        rw [List.mem_append, List.mem_singleton] at hx'
                        rcases hx' with hx' | rfl
                        · exact hrd2.ok _ hwm x hx'
                        · exact ⟨at', z, rfl, hz, e2⟩
                    · rw [List.length_append]
                      show _ ≤ rd2.length + 1
                      omega
                    · intro k h
                      rw [hk]
                      exact List.mem_append_left _ (hks k h)
                    · intro k h
                      rw [hk]
                      rw [List.mem_append, List.mem_singleton] at h
                      rcases h with h | rfl
                      · exact List.mem_append_left _ (hlts k h)
                      · simp
                    · rw [List.length_append]
                      show _ < rd2.length + 1
                      omega
                    · rw [List.length_append, List.length_append]
                      show lt.length + 1 < rd2.length + 1
                      omega
                · intro _
                  apply sj_nexts
                  exact sj_nextW (δ' := dn rd2 lt) (.keep (.keep (.keep (.keep (.keep (.keep (.keep (.drop (.drop .nil))))))))) ⟨rd2, lt, rfl, hrd2, hle, hks, hlts, hor, hll⟩
              · simp
            · rintro _ _ rfl (⟨rd2, lt, rfl, hrd2, hle, hks, hlts, hor, hll⟩ | z)
              rotate_left
              · exact z.elim
              exact sj_nextW (δ' := dm rd2 lt) (.keep (.keep (.keep (.keep (.keep (.keep (.drop (.keep (.keep .nil))))))))) ⟨rd2, lt, rfl, hrd2, hle, hks, hlts, hor, hll⟩
          · simp
        · rintro _ _ rfl (⟨rd2, lt, rfl, hrd2, hle, hks, hlts, hor, hll⟩ | z)
          rotate_left
          · exact z.elim
          apply sj_frz 5 rfl
          apply sj_last
          apply sj_set (ed_var rfl)
          rintro _ rfl
          refine sj_nextW (δ' := dl rd2 lt) (.keep (.keep (.keep (.keep (.keep (.drop (.keep (.keep (.keep .nil))))))))) (.inl ⟨dl rd2 lt, _, .inl rfl, ?_, rd2, lt, rfl, hrd2, hlts, rfl⟩)
          rw [hn']
          split
          · omega
          · rename_i h
            have h2 := hrd2.le
            rcases hor with hor | hor
            · exact absurd hor h
            · omega
      · simp
  · simp
end
end DN

namespace DN
open PySem PySem.Spec PyProof.Rows L2
variable [Tb]
abbrev Stn := Str × Int × Int
def statD (s : Stn) : D := .tup [.str s.1, .int s.2.1, .int s.2.2]
structure Bk where
  window : Int
  margin : Int
  goal : Str
  late : Int
  links : List Lk
  stations : List Stn
def bkE (b : Bk) : List (Key × D) := [(.inr "window", .int b.window), (.inr "margin", .int b.margin), (.inr "goal", .str b.goal), (.inr "late", .int b.late), (.inr "links", .lst (b.links.map linkD)), (.inr "stations", .lst (b.stations.map statD))]
def bkD (b : Bk) : D := .dct (bkE b)
theorem filt_true {α : Type} (l : List α) : l.filter (fun _ => true) = l := List.filter_eq_self.mpr fun _ _ => rfl
theorem bk_links (b : Bk) : getD' (bkE b) (.inr "links") = some (.lst (b.links.map linkD)) := rfl
theorem bk_stations (b : Bk) : getD' (bkE b) (.inr "stations") = some (.lst (b.stations.map statD)) := rfl
theorem bk_goal (b : Bk) : getD' (bkE b) (.inr "goal") = some (.str b.goal) := rfl
theorem bk_put (b : Bk) (ss : List Stn) : putD (bkE b) (.inr "stations") (.lst (ss.map statD)) = bkE { b with stations := ss } := rfl
theorem merge_app : ∀ {ps es : List (Key × D)}, ((es ++ ps).map (·.1)).Nodup → mergeD es ps = es ++ ps
  | [], es, _ => by simp [mergeD]
  | (k, d) :: r, es, h => by
    have e : putD es k d = es ++ [(k, d)] := by
      unfold putD
      have hk : es.any (fun e => decide (e.1 = k)) = false := by
        rw [List.any_eq_false]
        intro x hx
        rw [List.map_append, List.nodup_append] at h
        have := h.2.2 x.1 (List.mem_map.mpr ⟨x, hx, rfl⟩) k (by simp)
        simpa using this
      rw [hk]; rfl
    rw [mergeD, e, merge_app (by simpa using h)]
    simp
theorem merge_bk (b : Bk) : mergeD [] (bkE b) = bkE b := by
  rw [merge_app]
  · rfl
  · show ([.inr "window", .inr "margin", .inr "goal", .inr "late", .inr "links", .inr "stations"] : List Key).Nodup
    decide
def putsD (ns : List Str) (pv : Str → Int) : List (Key × D) := ns.map fun n => (.inr n, .int (pv n))
theorem get_puts {ns : List Str} {pv : Str → Int} {n : Str} (h : n ∈ ns) : getD' (putsD ns pv) (.inr n) = some (.int (pv n)) := by
  induction ns with
  | nil => cases h
  | cons m r ih =>
    by_cases e : m = n
    · subst e; simp [putsD, getD']
    · have e1 : getD' (putsD (m :: r) pv) (.inr n) = getD' (putsD r pv) (.inr n) := by simp [putsD, getD', e]
      rw [e1]
      exact ih (by rcases List.mem_cons.mp h with z | z; exact absurd z.symm e; exact z)
theorem put_puts {ns : List Str} {pv : Str → Int} {n : Str} {v : Int} (h : n ∈ ns) : putD (putsD ns pv) (.inr n) (.int v) = putsD ns (fun m => if m = n then v else pv m) := by
  unfold putD
  have : (putsD ns pv).any (fun e => decide (e.1 = Sum.inr n)) = true := by
    rw [List.any_eq_true]
    exact ⟨(.inr n, .int (pv n)), List.mem_map.mpr ⟨n, h, rfl⟩, by simp⟩
  rw [if_pos this]
  unfold putsD
  rw [List.map_map]
  refine List.map_congr_left fun m _ => ?_
  by_cases e : m = n
  · subst e; simp
  · simp [e]
/-- what a drawn book is -/
structure GoodBk (b : Bk) : Prop where
  names : (b.stations.map (·.1)).Nodup
  goal : b.goal ∉ b.stations.map (·.1)
  one : 1 ≤ b.stations.length
  most : b.stations.length ≤ 25
  ok : ∀ z ∈ b.goal :: b.stations.map (·.1), isN z
  links : GoodLs (b.stations.map (·.1)) b.goal b.window b.links
  many : b.links.length ≤ 200
  w1 : 1 ≤ b.window
  w2 : b.window ≤ 100
section
variable {ρ : Rh} {K : PySem.W.Frag} {δ : Dl} {te ta tb : TE} {tA : TA} {P : D → Prop} {k : Nat}
/-- a call of a def whose promise holds more than one -/
theorem ej_callS {n c : Nat} {pre : Rh → List D → Prop} {post : List D → D → Prop} {PA : List D → Prop} {EE : XK} {sp : Sp} (h : EA ρ K tA δ k PA) (hsp : ∀ vs H Q, spJ K n pre c post vs H Q EE → sp vs H Q EE) (h1 : ∀ ds, PA ds → ds.length = n ∧ pre ρ ds) (h2 : ∀ ds d, PA ds → post ds d → P d) :
    EJ ρ K (tCall sp [] EE tA) δ (k + c) P := .mk fun G0 H0 G H σ m Q w hm q =>
  (h).run G0 H0 G H σ m _ w (by omega) fun ds vs G1 H1 m1 px w1 g1 l1 ax => by
    show sp (vs ++ []) H1 Q EE
    rw [List.append_nil]
    exact hsp _ _ _ ⟨ρ, G1, ds, m1, ax, (h1 ds px).1, w1.gd.sub, w1.pot, fun a e => w1.gnone e, by omega, (h1 ds px).2, fun d v G2 H2 m2 pd g2 p2 l2 a2 => q d v G2 H2 m2 (h2 ds d px pd) (w1.step g2 p2) (Gd.trans w1.pot g1 g2) (by omega) a2⟩
theorem ej_way {b : Bk} {nm : Str} {lf : List Int} {i j l : Nat} {EE : XK} (hi : δ[i]? = some (some (.val (bkD b)))) (hj : δ[j]? = some (some (.own (.lst (lf.map D.int))))) (hl : δ[l]? = some (some (.val (.str nm)))) (gb : GoodBk b) (hn : letters nm) (hlf : lf.length = b.links.length) :
    EJ ρ K (tCall (spWay K) [] EE (tCons (tVar i) (tCons (tVar j) (tCons (tVar l) tNil)))) δ 0 (goodWay lf) := .mk fun G0 H0 G H σ m Q w hm q => by
  obtain ⟨v1, e1, a1⟩ := w.sl i _ hi
  obtain ⟨v2, e2, p, o, rfl, hp, ha, hg, h0⟩ := w.sl j _ hj
  obtain ⟨v3, e3, a3⟩ := w.sl l _ hl
  cases a3
  cases ha with
  | @lst xs _ hx =>
    have e := hx.ints
    subst e
    refine ⟨v1, e1, _, e2, _, e3, ?_⟩
    refine ⟨G, bkE b, b.links, b.goal, nm, lf, v1, p, rfl, w.gd.sub, a1, rfl, rfl, hp, hg, hlf, by have := gb.many; omega, fun x hx => ?_, hn, w.pot.off, fun d v G' H' hd g av => q d v G' H' m hd (w.step g.weak (w.pot.keep g)) g.weak (Nat.le_refl _) av⟩
    exact (gb.ok _ (gb.links.ends.b _ (List.mem_map.mpr ⟨x, hx, rfl⟩))).lt
theorem eb_true_of {tt : TT} {x : Bool} (h : EB ρ K tt δ x) : ET ρ K tt δ 0 (· = x) := h
end
section
variable {P : Program} {w : World} {K : PySem.W.Frag} {mg : Str → Option Value} {base : Heap}
def postFilled (b : Bk) (most : Nat) (d : D) : Prop := ∃ ss : List Stn, d = bkD { b with stations := ss } ∧ ss.map (fun s => (s.1, s.2.1)) = b.stations.map (fun s => (s.1, s.2.1)) ∧ ∀ s ∈ ss, 0 ≤ s.2.2 ∧ s.2.2 ≤ 600 * most
abbrev spFilled0 (K : PySem.W.Frag) (b : Bk) (most : Nat) : Sp := spJ K 3 (fun ρ ds => ∃ a, ds = [.opq (.ref a), bkD b, .int (most : Int)] ∧ ρ = .some a ∧ GoodBk b ∧ most ≤ 1000) 10000 (fun _ d => postFilled b most d)
def spFilled (K : PySem.W.Frag) : Sp := fun vs H Q E => ∃ b most, spFilled0 K b most vs H Q E
theorem ok_filled {f : Addr} {fd : FuncData} (F : Fun K "_law_filled" "_law_filled" s__law_filled f fd) (T : Txt K mg) (T3 : mg "dict" = none) (c__law_take : C8.Cal P w K mg base 1 "_law_take" (spTake K) []) (c__law_of : C8.Cal P w K mg base 2 "_law_of" (spOf K) []) (c__law_way_home : C8.Cal P w K mg base 1 "_law_way_home" (spWay K) []) : FnOk P w K mg base CX0 3 f fd ["pot", "own", "most"] (spFilled K) := by
  refine F.ok sc__law_filled (fun vs H Q E h => by obtain ⟨b, most, h⟩ := h; exact spJ_len h) (fun cdv A outer s H vs Q E hr h => ?_)
  obtain ⟨b, most, h⟩ := h
  refine ⟨_, (pss_cons (ps_asg (pe_tup (pa_cons (pe_lc (own := [("link", 14)]) rfl sc__law_filled.nd (pi_list (pe_dget (hu_of hr) (pv 1) pe_str (fun _ _ => rfl))) (blkOk_by (N := ["pot", "own", "most", "left", "puts", "lap", "found", "name", "way", "least", "many", "at", "level", "put", "link"]) (sc := defScope s__law_filled) (by decide +kernel)) (fun _ _ _ _ _ => (pg_name (i := 14) sc__law_filled.nd rfl (by first | exact Or.inl rfl | exact Or.inr rfl))) (fun _ _ _ _ _ => pts_nil) (fun _ _ _ _ _ => (pe_op op_mulW (pe_ix (r := rIxT K) ix_tup (pv 14) pe_int (fun _ _ => rfl)) (pe_ix (r := rIxT K) ix_tup (pv 14) pe_int (fun _ _ => rfl))))) (pa_cons (pe_callTy (call_dictP (by rfl)) (by rfl) T3 (by decide +kernel) (pa_cons (pe_lc (own := [("name", 7), ("level", 12), ("put", 13)]) (g := (gTup K 3 (gCons (gName 7) (gCons (gName 12) (gCons (gName 13) gNil))))) rfl sc__law_filled.nd (pi_list (pe_dget (hu_of hr) (pv 1) pe_str (fun _ _ => rfl))) (blkOk_by (N := ["pot", "own", "most", "left", "puts", "lap", "found", "name", "way", "least", "many", "at", "level", "put", "link"]) (sc := defScope s__law_filled) (by decide +kernel)) (fun _ _ _ _ _ => (pg_tup rfl (pgs_cons (pg_name (i := 7) sc__law_filled.nd rfl (by first | exact Or.inl rfl | exact Or.inr rfl)) (pgs_cons (pg_name (i := 12) sc__law_filled.nd rfl (by first | exact Or.inl rfl | exact Or.inr rfl)) (pgs_cons (pg_name (i := 13) sc__law_filled.nd rfl (by first | exact Or.inl rfl | exact Or.inr rfl)) pgs_nil))))) (fun _ _ _ _ _ => pts_nil) (fun _ _ _ _ _ => (pe_tup (pa_cons (pv 7) (pa_cons pe_int pa_nil))))) pa_nil)) pa_nil))) (pg_tup rfl (pgs_cons (pg_name (i := 3) sc__law_filled.nd rfl (by first | exact Or.inl rfl | exact Or.inr rfl)) (pgs_cons (pg_name (i := 4) sc__law_filled.nd rfl (by first | exact Or.inl rfl | exact Or.inr rfl)) pgs_nil))))
 (pss_cons (ps_for PassesOwn.never rfl (pi_range1 (by rfl) T.b_range (pa_cons (C8.pe_c c__law_take hr (by omega) (by rfl) (pa_cons (pv 0) (pa_cons (pe_op op_add (pv 2) pe_int) pa_nil))) pa_nil)) (pg_name (i := 5) sc__law_filled.nd rfl (by first | exact Or.inl rfl | exact Or.inr rfl))
  (pss_cons (ps_set (i := 7) sc__law_filled.nd rfl (by first | exact Or.inl rfl | exact Or.inr rfl) (pe_ix ix_tup (C8.pe_c c__law_of hr (by omega) (by rfl) (pa_cons (pv 0) (pa_cons (pe_dget (hu_of hr) (pv 1) pe_str (fun _ _ => rfl)) pa_nil))) pe_int (fun _ _ => rfl)))
 (pss_cons (ps_set (i := 8) sc__law_filled.nd rfl (by first | exact Or.inl rfl | exact Or.inr rfl) (C8.pe_c c__law_way_home hr (by omega) (by rfl) (pa_cons (pv 1) (pa_cons (pv 3) (pa_cons (pv 7) pa_nil)))))
 (pss_one (ps_if (pt_cmpR (op_neD hr.units) (pv 8) (pe_lst pa_nil) (by first | exact nomark _ | rfl)) (pss_cons (ps_set (i := 9) sc__law_filled.nd rfl (by first | exact Or.inl rfl | exact Or.inr rfl) (pe_callB (cr_min (by rfl)) (by rfl) T.b_min (by decide +kernel) (pa_cons (pe_lc (own := [("at", 11)]) rfl sc__law_filled.nd (pi_list (pv 8)) (blkOk_by (N := ["pot", "own", "most", "left", "puts", "lap", "found", "name", "way", "least", "many", "at", "level", "put", "link"]) (sc := defScope s__law_filled) (by decide +kernel)) (fun _ _ _ _ _ => (pg_name (i := 11) sc__law_filled.nd rfl (by first | exact Or.inl rfl | exact Or.inr rfl))) (fun _ _ _ _ _ => pts_nil) (fun _ _ _ _ _ => (pe_ix (r := rIxL K) ix_list (pv 3) (pv 11) (fun _ _ => rfl)))) pa_nil)))
 (pss_cons (ps_set (i := 10) sc__law_filled.nd rfl (by first | exact Or.inl rfl | exact Or.inr rfl) (pe_ifExp (pt_cmpR op_eq (C8.pe_c c__law_take hr (by omega) (by rfl) (pa_cons (pv 0) (pa_cons pe_int pa_nil))) pe_int (by first | exact nomark _ | rfl)) (pv 9) (pe_op op_add pe_int (C8.pe_c c__law_take hr (by omega) (by rfl) (pa_cons (pv 0) (pa_cons (pv 9) pa_nil))))))
 (pss_cons (ps_for PassesOwn.never rfl (pi_list (pv 8)) (pg_name (i := 11) sc__law_filled.nd rfl (by first | exact Or.inl rfl | exact Or.inr rfl))
  (pss_one (ps_asg (pe_op op_sub (pe_ix ix_list (pv 3) (pv 11) (fun _ _ => rfl)) (pv 10)) (pg_sub (pv 3) (pv 11) set_list))))
 (pss_one (ps_dput (hu_of hr) (pv 4) (pv 7) (pe_op op_add (pe_dget (hu_of hr) (pv 4) (pv 7) (fun _ _ => rfl)) (pv 10)) rfl))))) pss_nil)))))
 (pss_cons (ps_set (i := 6) sc__law_filled.nd rfl (by first | exact Or.inl rfl | exact Or.inr rfl) (pe_callTy (call_dictP (by rfl)) (by rfl) T3 (by decide +kernel) (pa_cons (pe_strip (LiI.pe_listItems (by rfl) (pv 1) (by rfl) T.b_list rfl)) pa_nil)))
 (pss_cons (ps_dput (hu_of hr) (pv 6) pe_str (pe_lc (own := [("name", 7), ("level", 12), ("put", 13)]) (g := (gTup K 3 (gCons (gName 7) (gCons (gName 12) (gCons (gName 13) gNil))))) rfl sc__law_filled.nd (pi_list (pe_dget (hu_of hr) (pv 1) pe_str (fun _ _ => rfl))) (blkOk_by (N := ["pot", "own", "most", "left", "puts", "lap", "found", "name", "way", "least", "many", "at", "level", "put", "link"]) (sc := defScope s__law_filled) (by decide +kernel)) (fun _ _ _ _ _ => (pg_tup rfl (pgs_cons (pg_name (i := 7) sc__law_filled.nd rfl (by first | exact Or.inl rfl | exact Or.inr rfl)) (pgs_cons (pg_name (i := 12) sc__law_filled.nd rfl (by first | exact Or.inl rfl | exact Or.inr rfl)) (pgs_cons (pg_name (i := 13) sc__law_filled.nd rfl (by first | exact Or.inl rfl | exact Or.inr rfl)) pgs_nil))))) (fun _ _ _ _ _ => pts_nil) (fun _ _ _ _ _ => (pe_tup (pa_cons (pv 7) (pa_cons (pv 12) (pa_cons (pe_callTy call_int1 (by rfl) T.b_int (by decide +kernel) (pa_cons (pe_dget (hu_of hr) (pv 4) (pv 7) (fun _ _ => rfl)) pa_nil)) pa_nil)))))) rfl)
 (pss_one (ps_ret (pv 6))))))), body_of (n := 3) (fun ρ ds hl hp => ?_) h⟩
  obtain ⟨a, rfl, rfl, gb, hmost⟩ := hp
  try dsimp only [cxOf, Cx.nox, Cx.wish]
  have hroom : ∀ l ∈ b.links, 1 ≤ l.2.2.1 ∧ l.2.2.1 ≤ 6 := gb.links.room
  have htimes : ∀ l ∈ b.links, 0 ≤ l.2.2.2 ∧ l.2.2.2 ≤ 100 := fun l hl => ⟨(gb.links.times l hl).1, Int.le_trans (gb.links.times l hl).2 gb.w2⟩
  let ns := b.stations.map (·.1)
  let lf0 : List Int := b.links.map fun l => l.2.2.1 * l.2.2.2
  let dl : List Int → (Str → Int) → Dl := fun lf pv => [some (.val (.opq (.ref a))), some (.val (bkD b)), some (.val (.int (most : Int))), some (.own (.lst (lf.map D.int))), some (.own (.dct (putsD ns pv))), none, none, none, none, none, none, none, none, none, none]
  apply ex_k
  · apply sj_tupOO (i := 3) (j := 4) (P1 := (· = .lst (lf0.map D.int))) (P2 := (· = .dct (putsD ns fun _ => 0))) (by decide) rfl
    · refine (en_lcE (L := [14]) (ds := b.links.map linkD) (p := fun _ => true) (f := fun d => match d with | .tup [_, _, .int r, .int t] => .int (r * t) | _ => .non) (ij_list (ed_dget (x := .inr "links") (ed_var rfl) ed_str (bk_links b))) (fun i h => h) (by rw [List.length_map]; have := gb.many; omega) (fun d _ => gj_name) (fun d _ => eb_yes) (fun d hd _ => ?_)).mono (Nat.le_refl _) fun r e => ?_
      · obtain ⟨l, hl, rfl⟩ := List.mem_map.mp hd
        have h1 := hroom l hl
        have h2 := htimes l hl
        exact ed_op (ed_op (ed_var rfl) ed_int (rj_ixT rfl)) (ed_op (ed_var rfl) ed_int (rj_ixT rfl)) (rj_I (wide_mul (a := 20) (b := 20) (by omega) (by omega) (by decide) (by decide) (by decide)))
      · rw [e, filt_true, List.map_map, List.map_map]
        rfl
    · refine (en_dictP (qs := putsD ns fun _ => 0) ?_).mono (Nat.le_refl _) fun r e => ?_
      · apply EN.ej
        refine (en_lcE (L := [7, 12, 13]) (ds := b.stations.map statD) (p := fun _ => true) (f := fun d => match d with | .tup [x, _, _] => .tup [x, .int 0] | _ => .non)
          (δt := fun d => match d with | .tup [x, y, z] => (((wipeD (initD 15 [.opq (.ref a), bkD b, .int (most : Int)]) [7, 12, 13]).set 7 (some (.val x))).set 12 (some (.val y))).set 13 (some (.val z)) | _ => [])
          (ij_list (ed_dget (x := .inr "stations") (ed_var rfl) ed_str (bk_stations b))) (fun i h => h) (by rw [List.length_map]; have := gb.most; omega) (fun d hd => ?_) (fun d _ => eb_yes) (fun d hd _ => ?_)).mono (Nat.le_refl _) fun r e => ?_
        · obtain ⟨s, hs, rfl⟩ := List.mem_map.mp hd
          exact gj_tup (gsj_cons gj_name (gsj_cons gj_name (gsj_cons gj_name gsj_nil))) rfl
        · obtain ⟨s, hs, rfl⟩ := List.mem_map.mp hd
          exact ed_tup (eda_cons (ed_var rfl) (eda_cons ed_int eda_nil)) (by show 2 ≤ 1000000; decide)
        · rw [e, filt_true]
          simp only [putsD, ns, List.map_map]
          rfl
      · rw [e, merge_app]
        · rfl
        · show ((putsD ns fun _ => 0).map (·.1)).Nodup
          unfold putsD
          rw [List.map_map]
          exact nodup_map gb.names fun x y e => by
            have : (Sum.inr x : Key) = Sum.inr y := e
            injection this
    rintro _ _ rfl rfl
    apply sj_for (Inv := fun _ t δ' => ∃ lf pv, δ' = dl lf pv ∧ lf.length = b.links.length ∧ (∀ z ∈ lf, z ≤ 600) ∧ ∀ n, 0 ≤ pv n ∧ pv n ≤ 600 * (t : Int)) (Br := fun _ => False) (N := 1000)
    · apply ij_range1P (PI := fun m => 0 ≤ m ∧ m ≤ (most : Int))
      · exact (ej_take rfl (ed_var rfl) (ed_op (ed_var rfl) ed_int rj_I0) (by omega) (by omega)).mono (Nat.le_refl _) fun d hd => by
          obtain ⟨r, rfl, r0, r1⟩ := hd
          exact ⟨r, rfl, r0, by omega⟩
      · intro m h
        exact ⟨by omega, by omega⟩
    · rintro _ ⟨m, h, rfl⟩
      rw [List.length_map, List.length_range]; omega
    · rintro _ ⟨m, h, rfl⟩
      refine ⟨lf0, fun _ => 0, rfl, by simp [lf0], fun z hz => ?_, fun n => (by show (0 : Int) ≤ 0 ∧ (0 : Int) ≤ 600 * ((0 : Nat) : Int); constructor <;> omega)⟩
      obtain ⟨l, hl, rfl⟩ := List.mem_map.mp hz
      have h1 := hroom l hl
      have h2 := htimes l hl
      have : l.2.2.1 * l.2.2.2 ≤ 6 * 100 := Int.mul_le_mul (by omega) (by omega) (by omega) (by omega)
      omega
    · rintro _ t d _ ⟨m, hm, rfl⟩ hd ⟨lf, pv, rfl, hlf, hle, hpv⟩
      have ht : t < 1000 := by
        have := (List.getElem?_eq_some_iff.mp hd).1
        rw [List.length_map, List.length_range] at this; omega
      refine ⟨_, gj_name, ?_⟩
      apply sj_set (P := fun d => ∃ n ∈ ns, d = .str n)
      · apply ej_op (P1 := fun d => ∃ s ∈ b.stations, d = statD s) (P2 := (· = .int 0))
        · exact (ej_ofL (l := b.stations.map statD) rfl (ed_var rfl) (ed_dget (x := .inr "stations") (ed_var rfl) ed_str (bk_stations b)) (by rw [List.length_map]; exact gb.one) (by rw [List.length_map]; have := gb.most; omega)).mono (Nat.le_refl _) fun d hd => by
            obtain ⟨s, hs, rfl⟩ := List.mem_map.mp hd
            exact ⟨s, hs, rfl⟩
        · intro _ _
          exact ed_int
        · rintro _ _ ⟨s, hs, rfl⟩ rfl
          exact ⟨.str s.1, ⟨s.1, List.mem_map.mpr ⟨s, hs, rfl⟩, rfl⟩, rj_ixT rfl⟩
      rintro _ ⟨nm, hnm, rfl⟩
      have hnl : letters nm := (gb.ok _ (List.mem_cons_of_mem _ hnm)).lt
      apply sj_set (ej_way (b := b) (lf := lf) rfl rfl rfl gb hnl hlf)
      rintro _ ⟨way, rfl, hwl, hway⟩
      apply sj_last
      apply sj_ifs (PT := fun x => x = !(way.map D.int).isEmpty)
      · exact eb_test (ed_op (ed_var rfl) (ed_lst eda_nil (by decide)) (rj_neNil (seqL_map (fun _ => rfl) way) (shaped_ints way)))
      · intro e
        have hw0 : 0 < way.length := by
          cases way with
          | nil => cases e
          | cons x r => simp
        apply sj_assoc
        apply sj_set (P := fun d => ∃ m, d = .int m ∧ 0 < m ∧ m ≤ 600)
        · refine (ej_min (ns := way.map fun x => (lf[x.toNat]?).getD 0) ?_ (by rw [List.length_map]; exact hw0)).mono (Nat.le_refl _) fun d hd => ?_
          · apply EN.ej
            apply en_peek 3 rfl
            · refine (en_lcE (L := [11]) (ds := way.map D.int) (p := fun _ => true) (f := fun d => match d with | .int x => .int ((lf[x.toNat]?).getD 0) | _ => .non) (ij_list (ed_var rfl)) (fun i h => h) (by rw [List.length_map]; omega) (fun d _ => gj_name) (fun d _ => eb_yes) (fun d hd _ => ?_)).mono (Nat.le_refl _) fun r e => ?_
              · obtain ⟨x, hx, rfl⟩ := List.mem_map.mp hd
                obtain ⟨n, z, rfl, hz, z0⟩ := hway x hx
                show ED _ _ _ _ (.int ((lf[(n : Int).toNat]?).getD 0))
                rw [Int.toNat_natCast, hz]
                exact ed_op (ed_var rfl) (ed_var rfl) (rj_ixL (atI_nat (by rw [List.getElem?_map, hz]; rfl)))
              · rw [e, filt_true, List.map_map, List.map_map]
                rfl
            · rintro _ rfl
              refine ⟨_, rfl, ?_⟩
              rw [List.all_eq_true]
              intro x hx
              obtain ⟨_, _, rfl⟩ := List.mem_map.mp hx
              rfl
          · obtain ⟨m', rfl, hmem, _⟩ := hd
            obtain ⟨x, hx, rfl⟩ := List.mem_map.mp hmem
            obtain ⟨n, z, rfl, hz, z0⟩ := hway x hx
            refine ⟨_, rfl, ?_, ?_⟩
            · rw [Int.toNat_natCast, hz]; exact z0
            · rw [Int.toNat_natCast, hz]; exact hle z (List.mem_of_getElem? hz)
        rintro _ ⟨least, rfl, l0, l1⟩
        apply sj_assoc
        apply sj_set (P := fun d => ∃ m, d = .int m ∧ 1 ≤ m ∧ m ≤ 600)
        · apply ej_if (PT := fun _ => True)
          · apply et_test
            exact ej_op (P2 := (· = .int 0)) (ej_take rfl (ed_var rfl) ed_int (by decide) (by decide)) (fun _ _ => ed_int) fun x y hx hy => by
              obtain ⟨r, rfl, _⟩ := hx
              subst hy
              exact ⟨_, ⟨_, rfl, trivial⟩, rj_eqI⟩
          · intro _
            exact ej_in (ed_var rfl) (by omega) (by omega)
          · intro _
            exact ej_1take rfl (ed_var rfl) (ed_var rfl) (by omega) (by omega) (by decide) (by omega)
        rintro _ ⟨many, rfl, m0, m1⟩
        let dm : List Int → Dl := fun lf => ((((dl lf pv).set 5 (some (.val d))).set 7 (some (.val (.str nm)))).set 8 (some (.val (.lst (way.map D.int))))).set 9 (some (.val (.int least))) |>.set 10 (some (.val (.int many)))
        apply sj_assoc
        apply sj_for (Inv := fun _ t δ' => ∃ lf', δ' = dm lf' ∧ lf'.length = b.links.length ∧ (∀ z ∈ lf', z ≤ 600)) (Br := fun _ => False) (N := 2000) (kb := 0)
        · exact ij_list (ed_var rfl)
        · rintro _ rfl
          rw [List.length_map]; exact hwl
        · rintro _ rfl
          exact ⟨lf, rfl, hlf, hle⟩
        · rintro _ t' x _ rfl hx ⟨lf', rfl, hlf', hle'⟩
          obtain ⟨x, hxm, rfl⟩ := List.mem_map.mp (List.mem_of_getElem? hx)
          obtain ⟨n, z, rfl, hz, z0⟩ := hway x hxm
          have hn : n < lf'.length := by
            rw [hlf', ← hlf]
            exact (List.getElem?_eq_some_iff.mp hz).1
          have hz' : lf'[n]? = some lf'[n] := List.getElem?_eq_getElem hn
          refine ⟨_, gj_name, ?_⟩
          apply sj_last
          apply sj_le
          · apply sj_setItem (i := 3) (n := n) (P := (· = .int (lf'[n] - many))) (k1 := 0) (k2 := 0) rfl
            · apply ej_peek 3 rfl
              · exact ed_op (ed_op (ed_var rfl) (ed_var rfl) (rj_ixL (d := .int lf'[n]) (atI_nat (by rw [List.getElem?_map, hz']; rfl)))) (ed_var rfl) rj_I0
              · rintro _ rfl
                rfl
            · exact ed_var rfl
            · rw [List.length_map]; exact hn
            rintro _ rfl
            refine sj_nextW (δ' := dm (lf'.set n (lf'[n] - many))) ?_ ⟨_, rfl, by rw [List.length_set]; exact hlf', fun z hz => ?_⟩
            · show Fewer [_, _, _, some (.own (.lst ((lf'.set n (lf'[n] - many)).map D.int))), _, _, _, _, _, _, _, _, _, _, _] _
              rw [List.map_set]
              exact .keep (.keep (.keep (.keep (.keep (.keep (.keep (.keep (.keep (.keep (.keep (.drop (.keep (.keep (.keep .nil))))))))))))))
            · rcases List.mem_or_eq_of_mem_set hz with h | rfl
              · exact hle' z h
              · have := hle' _ (List.getElem_mem hn)
                omega
          · decide
        · rintro _ _ rfl (⟨lf', rfl, hlf', hle'⟩ | z)
          rotate_left
          · exact z.elim
          apply sj_dput (i := 4) (x := .inr nm) (P := (· = .int (pv nm + many))) rfl
          · exact ed_op (ed_dgetO (x := .inr nm) rfl (ed_var rfl) (get_puts hnm)) (ed_var rfl) rj_I0
          · exact ed_var rfl
          · simp [putsD, ns]; have := gb.most; omega
          rintro _ rfl
          rw [put_puts hnm]
          refine sj_nextW (δ' := dl lf' (fun m => if m = nm then pv nm + many else pv m)) (.keep (.keep (.keep (.keep (.keep (.drop (.keep (.drop (.drop (.drop (.drop (.keep (.keep (.keep (.keep .nil))))))))))))))) ⟨_, _, rfl, hlf', hle', fun n => ?_⟩
          have h1 := hpv n
          have h2 := hpv nm
          show 0 ≤ (if n = nm then pv nm + many else pv n) ∧ (if n = nm then pv nm + many else pv n) ≤ 600 * ((t + 1 : Nat) : Int)
          split <;> constructor <;> omega
      · intro _
        apply sj_nexts
        refine sj_nextW (δ' := dl lf pv) (.keep (.keep (.keep (.keep (.keep (.drop (.keep (.drop (.drop (.keep (.keep (.keep (.keep (.keep (.keep .nil))))))))))))))) ⟨_, _, rfl, hlf, hle, fun n => ?_⟩
        have := hpv n
        constructor <;> omega
    · rintro _ _ ⟨m, hm, rfl⟩ (⟨lf, pv, rfl, hlf, hle, hpv⟩ | z)
      rotate_left
      · exact z.elim
      rw [List.length_map, List.length_range] at hpv
      let ss : List Stn := b.stations.map fun s => (s.1, s.2.1, pv s.1)
      apply sj_new (i := 6) (P := (· = bkD b))
      · exact (en_dictP (qs := bkE b) (ed_items rfl)).mono (Nat.le_refl _) fun r e => by rw [e, merge_bk]; rfl
      rintro _ rfl
      apply sj_dput (i := 6) (x := .inr "stations") (P := (· = .lst (ss.map statD))) rfl
      · apply EN.ej
        apply en_peekT 4 rfl
        · refine (en_lcE (L := [7, 12, 13]) (ds := b.stations.map statD) (p := fun _ => true) (f := fun d => match d with | .tup [.str x, y, _] => .tup [.str x, y, .int (pv x)] | _ => .non)
            (δt := fun d => match d with | .tup [x, y, z] => (((wipeD ((((dl lf pv).set 6 (some (.own (bkD b)))).set 4 (some (.val (.dct (putsD ns pv)))))) [7, 12, 13]).set 7 (some (.val x))).set 12 (some (.val y))).set 13 (some (.val z)) | _ => [])
            (ij_list (ed_dget (x := .inr "stations") (ed_var rfl) ed_str (bk_stations b))) (fun i h => h) (by rw [List.length_map]; have := gb.most; omega) (fun d hd => ?_) (fun d _ => eb_yes) (fun d hd _ => ?_)).mono (Nat.le_refl _) fun r e => ?_
          · obtain ⟨s, hs, rfl⟩ := List.mem_map.mp hd
            exact gj_tup (gsj_cons gj_name (gsj_cons gj_name (gsj_cons gj_name gsj_nil))) rfl
          · obtain ⟨s, hs, rfl⟩ := List.mem_map.mp hd
            exact ed_tup (eda_cons (ed_var rfl) (eda_cons (ed_var rfl) (eda_cons (ed_cb (eda_cons (ed_dget (x := .inr s.1) (ed_var rfl) (ed_var rfl) (get_puts (List.mem_map.mpr ⟨s, hs, rfl⟩))) eda_nil) cj_int) eda_nil))) (by show 3 ≤ 1000000; decide)
          · rw [e, filt_true, List.map_map, List.map_map]
            rfl
        · rintro _ rfl
          refine ⟨_, rfl, ?_⟩
          generalize ss = l
          induction l with
          | nil => rfl
          | cons x r ih => simpa [tupOL, tupO, statD] using ih
      · exact ed_str
      · show 6 < 1000000
        decide
      rintro _ rfl
      rw [bk_put]
      apply sj_frz 6 rfl
      apply sj_retP (ed_var rfl)
      rintro _ rfl
      refine .inl ⟨_, rfl, ss, rfl, ?_, fun s hs => ?_⟩
      · rw [List.map_map]
        rfl
      · obtain ⟨s', _, rfl⟩ := List.mem_map.mp hs
        have h1 := hpv s'.1
        have h2 : (m.toNat : Int) ≤ most := by omega
        exact ⟨h1.1, by show pv s'.1 ≤ _; omega⟩
  · decide
end
end DN

namespace DN
open PySem PySem.Spec PyProof.Rows L2
variable [Tb]
theorem cut_neg1 {α : Type} (xs : List D) (x : D) : cutD (xs ++ [x]) none (some (-1)) = xs := by
  unfold cutD HT.sIx
  simp only
  rw [if_pos (by decide), List.length_append]
  show List.take (((-1 : Int) + ((xs.length + 1 : Nat) : Int)).toNat - 0) (List.drop 0 (xs ++ [x])) = xs
  have : ((-1 : Int) + ((xs.length + 1 : Nat) : Int)).toNat - 0 = xs.length := by omega
  rw [this, List.drop_zero, List.take_left']
  rfl
theorem atI_neg1 (xs : List D) (x : D) : atI (xs ++ [x]) (-1) = some x := by
  unfold atI ixN
  rw [if_neg (by decide), if_pos (by rw [List.length_append]; show -((xs.length + 1 : Nat) : Int) ≤ -1; omega)]
  have : ((-1 : Int) + ((xs ++ [x]).length : Nat)).toNat = xs.length := by rw [List.length_append]; show ((-1 : Int) + ((xs.length + 1 : Nat) : Int)).toNat = _; omega
  simp only [this]
  simp
/-- a drawn book -/
structure DrawnBk (S L : Nat) (W : Int) (b : Bk) : Prop where
  good : GoodBk b
  w : b.window ≤ W
  s : b.stations.length ≤ S
  l : b.links.length ≤ L
  m0 : 0 ≤ b.margin ∧ b.margin ≤ 11
  late : 0 ≤ b.late ∧ b.late ≤ 3
  lev : ∀ s ∈ b.stations, 0 ≤ s.2.1 ∧ s.2.1 ≤ 8
  put : ∀ s ∈ b.stations, s.2.2 = 0
theorem GoodLs.take {ns : List Str} {goal : Str} {wd : Int} {ls : List Lk} (h : GoodLs ns goal wd ls) (n : Nat) : GoodLs ns goal wd (ls.take n) := by
  have hm : (ls.take n).map endsOf = (ls.map endsOf).take n := by rw [List.map_take]
  refine ⟨⟨by rw [hm]; exact h.ends.nd.sublist (List.take_sublist _ _), fun p hp => h.ends.a p ?_, fun p hp => h.ends.b p ?_, fun p hp => h.ends.ne p ?_⟩, fun l hl => h.room l (List.mem_of_mem_take hl), fun l hl => h.times l (List.mem_of_mem_take hl)⟩ <;>
  · rw [hm] at hp
    exact List.mem_of_mem_take hp
section
variable {P : Program} {w : World} {K : PySem.W.Frag} {mg : Str → Option Value} {base : Heap}
abbrev spBook (K : PySem.W.Frag) (S L : Nat) (W : Int) : Sp := spJ K 4 (fun ρ ds => ∃ a, ds = [.opq (.ref a), .int (S : Int), .int (L : Int), .int W] ∧ ρ = .some a ∧ 1 ≤ S ∧ S ≤ 25 ∧ L ≤ 100 ∧ 1 ≤ W ∧ W ≤ 100) 20000 (fun _ d => ∃ b, d = bkD b ∧ DrawnBk S L W b)
def spBookE (K : PySem.W.Frag) : Sp := fun vs H Q E => ∃ S L W, spBook K S L W vs H Q E
theorem strs_of_all : ∀ {ds : List Str} {rs : List D}, All2 (fun d r => ∃ n l, d = D.str n ∧ r = statD (n, l, 0) ∧ 0 ≤ l ∧ l ≤ 8) (ds.map D.str) rs → ∃ ss : List Stn, rs = ss.map statD ∧ ss.map (·.1) = ds ∧ (∀ s ∈ ss, 0 ≤ s.2.1 ∧ s.2.1 ≤ 8) ∧ ∀ s ∈ ss, s.2.2 = 0
  | [], _, .nil => ⟨[], rfl, rfl, by simp, by simp⟩
  | n :: r, _, .cons h t => by
    obtain ⟨ss, rfl, e, h1, h2⟩ := strs_of_all t
    obtain ⟨n', l, e1, rfl, l0, l1⟩ := h
    injection e1 with e1
    subst e1
    refine ⟨(n, l, 0) :: ss, rfl, by rw [List.map_cons, e], fun s hs => ?_, fun s hs => ?_⟩
    · rcases List.mem_cons.mp hs with rfl | hs
      · exact ⟨l0, l1⟩
      · exact h1 s hs
    · rcases List.mem_cons.mp hs with rfl | hs
      · rfl
      · exact h2 s hs
theorem ok_book {f : Addr} {fd : FuncData} (F : Fun K "_law_book" "_law_book" s__law_book f fd) (T : Txt K mg) (c__law_take : C8.Cal P w K mg base 1 "_law_take" (spTake K) []) (c__law_of : C8.Cal P w K mg base 2 "_law_of" (spOf K) []) (c__law_names : C8.Cal P w K mg base 3 "_law_names" (spNames K 1000) []) (c__law_links : C8.Cal P w K mg base 3 "_law_links" (spLinks K 10000) []) : FnOk P w K mg base CX0 4 f fd ["pot", "stations", "links", "window"] (spBookE K) := by
  refine F.ok sc__law_book (fun vs H Q E h => by obtain ⟨_, _, _, h⟩ := h; exact spJ_len h) (fun cdv A outer s H vs Q E hr h => ?_)
  obtain ⟨S, L, W, h⟩ := h
  refine ⟨_, (pss_cons (ps_par (i := 4) (j := 5) (by rfl) sc__law_book.nd rfl rfl (by decide) rfl rfl (pa_cons (pe_op op_add pe_int (C8.pe_c c__law_take hr (by omega) (by rfl) (pa_cons (pv 0) (pa_cons (pv 1) pa_nil)))) (pa_cons (pe_op op_add pe_int (C8.pe_c c__law_take hr (by omega) (by rfl) (pa_cons (pv 0) (pa_cons (pv 3) pa_nil)))) pa_nil)) (by rfl))
 (pss_cons (ps_set (i := 6) sc__law_book.nd rfl (by first | exact Or.inl rfl | exact Or.inr rfl) (C8.pe_c c__law_names hr (by omega) (by rfl) (pa_cons (pv 0) (pa_cons (pe_op op_add (pv 4) pe_int) pa_nil))))
 (pss_cons (ps_set (i := 7) sc__law_book.nd rfl (by first | exact Or.inl rfl | exact Or.inr rfl) (pe_disp (pps_cons pe_str (pe_callTy call_int1 (by rfl) T.b_int (by decide +kernel) (pa_cons (pv 5) pa_nil)) (pps_cons pe_str (pe_callTy call_int1 (by rfl) T.b_int (by decide +kernel) (pa_cons (C8.pe_c c__law_of hr (by omega) (by rfl) (pa_cons (pv 0) (pa_cons (pe_lst (pa_cons pe_int (pa_cons pe_int (pa_cons pe_int (pa_cons pe_int (pa_cons (C8.pe_c c__law_take hr (by omega) (by rfl) (pa_cons (pv 0) (pa_cons pe_int pa_nil))) pa_nil)))))) pa_nil))) pa_nil)) (pps_cons pe_str (pe_ix ix_list (pv 6) (pe_un un_neg pe_int) (fun _ _ => rfl)) pps_nil))) (by rfl) (by rfl) (fun z => by cases z) (by decide)))
 (pss_cons (ps_dput (hu_of hr) (pv 7) pe_str (pe_callTy call_int1 (by rfl) T.b_int (by decide +kernel) (pa_cons (C8.pe_c c__law_of hr (by omega) (by rfl) (pa_cons (pv 0) (pa_cons (pe_lst (pa_cons pe_int (pa_cons pe_int (pa_cons pe_int (pa_cons pe_int (pa_cons pe_int pa_nil)))))) pa_nil))) pa_nil)) rfl)
 (pss_cons (ps_dput (hu_of hr) (pv 7) pe_str (pe_slice sl_list (C8.pe_c c__law_links hr (by omega) (by rfl) (pa_cons (pv 0) (pa_cons (pe_slice sl_list (pv 6) po_none (po_some (pe_un un_neg pe_int))) (pa_cons (pe_ix ix_list (pv 6) (pe_un un_neg pe_int) (fun _ _ => rfl)) (pa_cons (C8.pe_c c__law_take hr (by omega) (by rfl) (pa_cons (pv 0) (pa_cons (pe_op op_add (pv 2) pe_int) pa_nil))) (pa_cons (pv 5) pa_nil)))))) po_none (po_some (pv 2))) rfl)
 (pss_cons (ps_dput (hu_of hr) (pv 7) pe_str (pe_lc (own := [("name", 8)]) rfl sc__law_book.nd (pi_list (pe_slice sl_list (pv 6) po_none (po_some (pe_un un_neg pe_int)))) (blkOk_by (N := ["pot", "stations", "links", "window", "many", "wide", "names", "found", "name"]) (sc := defScope s__law_book) (by decide +kernel)) (fun _ _ _ _ _ => (pg_name (i := 8) sc__law_book.nd rfl (by first | exact Or.inl rfl | exact Or.inr rfl))) (fun _ _ _ _ _ => pts_nil) (fun _ _ _ _ _ => (pe_tup (pa_cons (pv 8) (pa_cons (pe_callTy call_int1 (by rfl) T.b_int (by decide +kernel) (pa_cons (C8.pe_c c__law_of hr (by omega) (by rfl) (pa_cons (pv 0) (pa_cons (pe_lst (pa_cons pe_int (pa_cons pe_int (pa_cons pe_int (pa_cons pe_int (pa_cons (C8.pe_c c__law_take hr (by omega) (by rfl) (pa_cons (pv 0) (pa_cons pe_int pa_nil))) pa_nil)))))) pa_nil))) pa_nil)) (pa_cons pe_int pa_nil)))))) rfl)
 (pss_one (ps_ret (pv 7))))))))), body_of (n := 4) (fun ρ ds hl hp => ?_) h⟩
  obtain ⟨a, rfl, rfl, hS1, hS2, hL, hW1, hW2⟩ := hp
  try dsimp only [cxOf, Cx.nox, Cx.wish]
  apply ex_k
  · apply sj_par (PA := fun ds => ∃ m v : Int, ds = [.int m, .int v] ∧ (1 ≤ m ∧ m ≤ S) ∧ 1 ≤ v ∧ v ≤ W)
    · apply ea_cons (P1 := fun d => ∃ m : Int, d = .int m ∧ 1 ≤ m ∧ m ≤ S) (PR := fun ds => ∃ v : Int, ds = [.int v] ∧ 1 ≤ v ∧ v ≤ W)
      · exact ej_1take rfl (ed_var rfl) (ed_var rfl) (by omega) (by omega) (by decide) (by omega)
      · intro _ _
        apply ea_cons (P1 := fun d => ∃ m : Int, d = .int m ∧ 1 ≤ m ∧ m ≤ W) (PR := (· = []))
        · exact ej_1take rfl (ed_var rfl) (ed_var rfl) (by omega) (by omega) (by decide) (by omega)
        · intro _ _
          exact eda_nil
        · rintro _ _ ⟨v, rfl, h⟩ rfl
          exact ⟨v, rfl, h⟩
      · rintro _ _ ⟨m, rfl, h⟩ ⟨v, rfl, h'⟩
        exact ⟨m, v, rfl, h, h'⟩
    rintro _ ⟨m, wd, rfl, ⟨m1, m2⟩, v1, v2⟩
    refine ⟨_, _, rfl, ?_⟩
    obtain ⟨mn, rfl⟩ : ∃ mn : Nat, m = (mn : Int) := ⟨m.toNat, by omega⟩
    apply sj_set (P := fun d => ∃ ns : List Str, d = .lst (ns.map D.str) ∧ ns.length = mn + 1 ∧ GoodNs (mn + 1) ns)
    · apply ej_call (PA := (· = [.opq (.ref a), .int ((mn + 1 : Nat) : Int)])) (eda_cons (ed_var rfl) (eda_cons (ed_op (ed_var rfl) ed_int rj_I0) eda_nil))
      · rintro _ rfl
        exact ⟨rfl, a, mn + 1, rfl, rfl, by omega, by omega⟩
      · rintro _ d rfl hd
        exact hd _ _ rfl
    rintro _ ⟨ns0, rfl, hlen, hgn⟩
    obtain ⟨ns, goal, rfl⟩ : ∃ ns goal, ns0 = ns ++ [goal] := by
      have hne : ns0 ≠ [] := by
        rintro rfl
        simp at hlen
      exact ⟨ns0.dropLast, ns0.getLast hne, (List.dropLast_concat_getLast hne).symm⟩
    have hnl : ns.length = mn := by simpa using hlen
    have hnd := hgn.nd
    rw [List.nodup_append] at hnd
    have hgo : goal ∉ ns := fun z => hnd.2.2 goal z goal (by simp) rfl
    have hok : ∀ z ∈ goal :: ns, isN z := fun z hz => hgn.ok z (by
      rcases List.mem_cons.mp hz with rfl | hz
      · simp
      · exact List.mem_append_left _ hz)
    have emap : (ns ++ [goal]).map D.str = ns.map D.str ++ [.str goal] := by simp
    rw [emap]
    have ed_init : ∀ {δ : Dl}, δ[6]? = some (some (.val (.lst (ns.map D.str ++ [.str goal])))) → ED (.some a) K (tSl (rSlL K) (tVar 6) tNoPart (tPart (tUn (rU fun i => V.int (-i)) (tC (V.int 1))))) δ (.lst (ns.map D.str)) := fun h => by
      have := EN.ej (en_sl (ρ := .some a) (K := K) (ed_var h) eo_none (eo_some (i := -1) (ed_un ed_int uj_neg)))
      rw [cut_neg1 (α := D)] at this
      exact this
    have ed_last : ∀ {δ : Dl}, δ[6]? = some (some (.val (.lst (ns.map D.str ++ [.str goal])))) → ED (.some a) K (tOp (rIxL K) (tVar 6) (tUn (rU fun i => V.int (-i)) (tC (V.int 1)))) δ (.str goal) := fun h => ed_op (ed_var h) (ed_un ed_int uj_neg) (rj_ixL (atI_neg1 _ _))
    apply sj_new (P := fun d => ∃ mg : Int, d = .dct [(.inr "window", .int wd), (.inr "margin", .int mg), (.inr "goal", .str goal)] ∧ 0 ≤ mg ∧ mg ≤ 11)
    · apply en_disp (PE := fun es => ∃ mg : Int, es = [(.inr "window", .int wd), (.inr "margin", .int mg), (.inr "goal", .str goal)] ∧ 0 ≤ mg ∧ mg ≤ 11)
      · apply pj_cons (x := .inr "window") (P := (· = .int wd)) (PR := fun es => ∃ mg : Int, es = [(.inr "margin", .int mg), (.inr "goal", .str goal)] ∧ 0 ≤ mg ∧ mg ≤ 11) ed_str (ed_cb (eda_cons (ed_var rfl) eda_nil) cj_int)
        · intro _ _
          apply pj_cons (x := .inr "margin") (P := fun d => ∃ mg : Int, d = .int mg ∧ 0 ≤ mg ∧ mg ≤ 11) (PR := (· = [(.inr "goal", .str goal)])) ed_str
          · exact ej_intOf rfl (ed_var rfl) (eai_cons (ej_in ed_int (by decide) (by decide)) (eai_cons (ej_in ed_int (by decide) (by decide)) (eai_cons (ej_in ed_int (by decide) (by decide)) (eai_cons (ej_in ed_int (by decide) (by decide)) (eai_cons ((ej_take rfl (ed_var rfl) ed_int (by decide) (by decide)).mono (Nat.le_refl _) fun d hd => by
              obtain ⟨r, rfl, r0, r1⟩ := hd
              exact ⟨r, rfl, r0, by omega⟩) eai_nil))))) (by decide)
          · intro _ _
            exact pj_cons (x := .inr "goal") (P := (· = .str goal)) (PR := (· = [])) ed_str (ed_last rfl) (fun _ _ => pj_nil) fun d es e1 e2 => by subst e1 e2; rfl
          · rintro _ _ ⟨mg, rfl, h⟩ rfl
            exact ⟨mg, rfl, h⟩
        · rintro _ _ rfl ⟨mg, rfl, h⟩
          exact ⟨mg, rfl, h⟩
      · rintro _ ⟨mg, rfl, _⟩
        show 3 ≤ 15
        decide
      · rintro _ ⟨mg, rfl, h⟩
        exact ⟨mg, rfl, h⟩
    rintro _ ⟨mar, rfl, mar0, mar1⟩
    apply sj_dput (i := 7) (x := .inr "late") (P := fun d => ∃ k : Int, d = .int k ∧ 0 ≤ k ∧ k ≤ 3) rfl
    · exact ej_intOf rfl (ed_var rfl) (eai_cons (ej_in ed_int (by decide) (by decide)) (eai_cons (ej_in ed_int (by decide) (by decide)) (eai_cons (ej_in ed_int (by decide) (by decide)) (eai_cons (ej_in ed_int (by decide) (by decide)) (eai_cons (ej_in ed_int (by decide) (by decide)) eai_nil))))) (by decide)
    · exact ed_str
    · show 3 < 1000000
      decide
    rintro _ ⟨late, rfl, la0, la1⟩
    apply sj_dput (i := 7) (x := .inr "links") (P := fun d => ∃ ls : List Lk, d = .lst (ls.map linkD) ∧ GoodLs ns goal wd ls ∧ ls.length ≤ L) rfl
    · apply EN.ej
      apply en_slP (n := L) (PL := fun ds => ∃ ls : List Lk, ds = ls.map linkD ∧ GoodLs ns goal wd ls)
      · apply ej_call (PA := fun ds => ∃ u : Nat, ds = [.opq (.ref a), .lst (ns.map D.str), .str goal, .int (u : Int), .int wd] ∧ u ≤ 100)
        · apply ea_cons (P1 := (· = .opq (.ref a))) (PR := fun ds => ∃ u : Nat, ds = [.lst (ns.map D.str), .str goal, .int (u : Int), .int wd] ∧ u ≤ 100) (ed_var rfl)
          · intro _ _
            apply ea_cons (P1 := (· = .lst (ns.map D.str))) (PR := fun ds => ∃ u : Nat, ds = [.str goal, .int (u : Int), .int wd] ∧ u ≤ 100) (ed_init rfl)
            · intro _ _
              apply ea_cons (P1 := (· = .str goal)) (PR := fun ds => ∃ u : Nat, ds = [.int (u : Int), .int wd] ∧ u ≤ 100) (ed_last rfl)
              · intro _ _
                apply ea_cons (P1 := fun d => ∃ u : Nat, d = .int (u : Int) ∧ u ≤ 100) (PR := (· = [.int wd]))
                · exact (ej_take rfl (ed_var rfl) (ed_op (ed_var rfl) ed_int rj_I0) (by omega) (by omega)).mono (Nat.le_refl _) fun d hd => by
                    obtain ⟨r, rfl, r0, r1⟩ := hd
                    exact ⟨r.toNat, by congr 1; omega, by omega⟩
                · intro _ _
                  exact eda_cons (ed_var rfl) eda_nil
                · rintro _ _ ⟨u, rfl, h⟩ rfl
                  exact ⟨u, rfl, h⟩
              · rintro _ _ rfl ⟨u, rfl, h⟩
                exact ⟨u, rfl, h⟩
            · rintro _ _ rfl ⟨u, rfl, h⟩
              exact ⟨u, rfl, h⟩
          · rintro _ _ rfl ⟨u, rfl, h⟩
            exact ⟨u, rfl, h⟩
        · rintro _ ⟨u, rfl, hu⟩
          exact ⟨rfl, a, ns, goal, u, wd, rfl, rfl, hnd.1, hgo, by omega, by omega, hu, v1, by omega, hok⟩
        · rintro _ d ⟨u, rfl, hu⟩ hd
          obtain ⟨ls, rfl, h⟩ := hd _ _ _ _ _ rfl
          exact ⟨_, rfl, ls, rfl, h⟩
      · exact eo_some (ed_var rfl)
      · rintro _ ⟨ls, rfl, h⟩
        exact ⟨ls.take L, by rw [List.map_take], h.take L, by rw [List.length_take]; omega⟩
    · exact ed_str
    · show 4 < 1000000
      decide
    rintro _ ⟨ls, rfl, hls, hll⟩
    apply sj_dput (i := 7) (x := .inr "stations") (P := fun d => ∃ ss : List Stn, d = .lst (ss.map statD) ∧ ss.map (·.1) = ns ∧ (∀ s ∈ ss, 0 ≤ s.2.1 ∧ s.2.1 ≤ 8) ∧ ∀ s ∈ ss, s.2.2 = 0) rfl
    · apply EN.ej
      refine (en_lc (L := [8]) (ke := 2) (PI := (· = ns.map D.str)) (N := 25) (p := fun _ => true) (R := fun d r => ∃ n l, d = D.str n ∧ r = statD (n, l, 0) ∧ 0 ≤ l ∧ l ≤ 8) (ij_list (ed_init rfl)) (fun ds e => by subst e; rw [List.length_map]; omega) (fun i h => h) (by decide) (fun ds d e hd => gj_name) (fun ds d e hd => eb_yes) (fun ds d e hd _ => ?_)).mono (Nat.le_refl _) fun r h => ?_
      · subst e
        obtain ⟨n, hn, rfl⟩ := List.mem_map.mp hd
        apply ej_le
        · apply ej_tup (PA := fun ds => ∃ l : Int, ds = [.str n, .int l, .int 0] ∧ 0 ≤ l ∧ l ≤ 8)
          · apply ea_cons (P1 := (· = .str n)) (PR := fun ds => ∃ l : Int, ds = [.int l, .int 0] ∧ 0 ≤ l ∧ l ≤ 8) (ed_var rfl)
            · intro _ _
              apply ea_cons (P1 := fun d => ∃ l : Int, d = .int l ∧ 0 ≤ l ∧ l ≤ 8) (PR := (· = [.int 0]))
              · exact ej_intOf rfl (ed_var rfl) (eai_cons (ej_in ed_int (by decide) (by decide)) (eai_cons (ej_in ed_int (by decide) (by decide)) (eai_cons (ej_in ed_int (by decide) (by decide)) (eai_cons (ej_in ed_int (by decide) (by decide)) (eai_cons ((ej_take rfl (ed_var rfl) ed_int (by decide) (by decide)).mono (Nat.le_refl _) fun d hd => by
                  obtain ⟨r, rfl, r0, r1⟩ := hd
                  exact ⟨r, rfl, r0, by omega⟩) eai_nil))))) (by decide)
              · intro _ _
                exact eda_cons ed_int eda_nil
              · rintro _ _ ⟨l, rfl, h⟩ rfl
                exact ⟨l, rfl, h⟩
            · rintro _ _ rfl ⟨l, rfl, h⟩
              exact ⟨l, rfl, h⟩
          · rintro _ ⟨l, rfl, _⟩
            show 3 ≤ 1000000
            decide
          · rintro _ ⟨l, rfl, h⟩
            exact ⟨n, l, rfl, rfl, h⟩
        · decide
      · obtain ⟨ds, rs, rfl, rfl, hall⟩ := h
        rw [filt_true] at hall
        obtain ⟨ss, rfl, h⟩ := strs_of_all hall
        exact ⟨ss, rfl, h⟩
    · exact ed_str
    · show 5 < 1000000
      decide
    rintro _ ⟨ss, rfl, hs1, hs2, hs3⟩
    apply sj_frz 7 rfl
    apply sj_retP (ed_var rfl)
    rintro _ rfl
    have hsl : ss.length = mn := by rw [← hnl, ← hs1, List.length_map]
    refine .inl ⟨_, rfl, ⟨wd, mar, goal, late, ls, ss⟩, rfl, ⟨?_, v2, ?_, hll, ⟨mar0, mar1⟩, ⟨la0, la1⟩, hs2, hs3⟩⟩
    · exact ⟨by rw [hs1]; exact hnd.1, by rw [hs1]; exact hgo, by show 1 ≤ ss.length; omega, by show ss.length ≤ 25; omega, by rw [hs1]; exact hok, by rw [hs1]; exact hls, by show ls.length ≤ 200; omega, v1, by show wd ≤ 100; omega⟩
    · show ss.length ≤ S
      omega
  · decide
end
end DN

namespace DN
open PySem PySem.Spec PyProof.Rows L2
variable [Tb]
/-- a drawn book with puts -/
structure FlowBk (S L : Nat) (W : Int) (b : Bk) : Prop where
  good : GoodBk b
  w : b.window ≤ W
  s : b.stations.length ≤ S
  l : b.links.length ≤ L
  m0 : 0 ≤ b.margin ∧ b.margin ≤ 11
  late : 0 ≤ b.late ∧ b.late ≤ 3
  lev : ∀ s ∈ b.stations, 0 ≤ s.2.1 ∧ s.2.1 ≤ 8
  put : ∀ s ∈ b.stations, 0 ≤ s.2.2 ∧ s.2.2 ≤ 30000
theorem names_of {ss ts : List Stn} (h : ss.map (fun s => (s.1, s.2.1)) = ts.map (fun s => (s.1, s.2.1))) : ss.map (·.1) = ts.map (·.1) := by
  have := congrArg (fun l : List (Str × Int) => l.map (·.1)) h
  simpa [List.map_map, Function.comp_def] using this
theorem GoodBk.anew {b : Bk} (h : GoodBk b) {ss : List Stn} (e : ss.map (·.1) = b.stations.map (·.1)) : GoodBk { b with stations := ss } := by
  have el : ss.length = b.stations.length := by
    have := congrArg List.length e
    simpa using this
  exact ⟨by show (ss.map (·.1)).Nodup; rw [e]; exact h.names, by show b.goal ∉ ss.map (·.1); rw [e]; exact h.goal, by show 1 ≤ ss.length; rw [el]; exact h.one, by show ss.length ≤ 25; rw [el]; exact h.most, by show ∀ z ∈ b.goal :: ss.map (·.1), isN z; rw [e]; exact h.ok, by show GoodLs (ss.map (·.1)) _ _ _; rw [e]; exact h.links, h.many, h.w1, h.w2⟩
section
variable {P : Program} {w : World} {K : PySem.W.Frag} {mg : Str → Option Value} {base : Heap}
abbrev spFlow (K : PySem.W.Frag) (S L : Nat) (W : Int) : Sp := spJ K 4 (fun ρ ds => ∃ a, ds = [.opq (.ref a), .int (S : Int), .int (L : Int), .int W] ∧ ρ = .some a ∧ 1 ≤ S ∧ S ≤ 25 ∧ L ≤ 100 ∧ 1 ≤ W ∧ W ≤ 100) 30000 (fun _ d => ∃ b, d = bkD b ∧ FlowBk S L W b)
def spFlowE (K : PySem.W.Frag) : Sp := fun vs H Q E => ∃ S L W, spFlow K S L W vs H Q E
theorem ok_flow {f : Addr} {fd : FuncData} (F : Fun K "_law_flow_book" "_law_flow_book" s__law_flow_book f fd) (T : Txt K mg) (c__law_filled : C8.Cal P w K mg base 3 "_law_filled" (spFilled K) []) (c__law_book : C8.Cal P w K mg base 4 "_law_book" (spBookE K) []) : FnOk P w K mg base CX0 5 f fd ["pot", "stations", "links", "window"] (spFlowE K) := by
  refine F.ok sc__law_flow_book (fun vs H Q E h => by obtain ⟨_, _, _, h⟩ := h; exact spJ_len h) (fun cdv A outer s H vs Q E hr h => ?_)
  obtain ⟨S, L, W, h⟩ := h
  refine ⟨_, (pss_one (ps_ret (C8.pe_c c__law_filled hr (by omega) (by rfl) (pa_cons (pv 0) (pa_cons (C8.pe_c c__law_book hr (by omega) (by rfl) (pa_cons (pv 0) (pa_cons (pv 1) (pa_cons (pv 2) (pa_cons (pv 3) pa_nil))))) (pa_cons (pe_op op_mulW pe_int (pv 1)) pa_nil)))))), body_of (n := 4) (fun ρ ds hl hp => ?_) h⟩
  obtain ⟨a, rfl, rfl, hS1, hS2, hL, hW1, hW2⟩ := hp
  try dsimp only [cxOf, Cx.nox, Cx.wish]
  apply ex_k
  · apply sj_retP (P := fun d => ∃ b, d = bkD b ∧ FlowBk S L W b) (k := 0 + (20000 + (0 + 0)) + 10000)
    · -- the book first, then its filling
      refine .mk fun G0 H0 G H σ m Q w hm q => ?_
      have w0 := w
      obtain ⟨v0, e0, a0⟩ := w.sl 0 _ rfl
      have e0' : v0 = V.ref a := by cases a0; rfl
      subst e0'
      refine ⟨_, e0, ?_⟩
      refine (ej_callS (n := 4) (PA := (· = [.opq (.ref a), .int (S : Int), .int (L : Int), .int W])) (P := fun d => ∃ b, d = bkD b ∧ DrawnBk S L W b) (sp := spBookE K) (EE := C8.E0) (k := 0) (eda_cons (ed_var (i := 0) rfl) (eda_cons (ed_var (i := 1) rfl) (eda_cons (ed_var (i := 2) rfl) (eda_cons (ed_var (i := 3) rfl) eda_nil)))) (fun vs H Q h => ⟨S, L, W, h⟩) (fun ds e => ⟨by subst e; rfl, a, e, rfl, hS1, hS2, hL, hW1, hW2⟩) (fun ds d e h => h)).run G0 H0 G H σ m _ w (by omega) fun d v G1 H1 m1 pd w1 g1 l1 av => ?_
      obtain ⟨b, rfl, db⟩ := pd
      refine (ed_op (ρ := .some a) (K := K) (ed_int (i := 2)) (ed_var (i := 1) rfl) (rj_I (wide_mul (a := 10) (b := 10) (by decide) (by omega) (by decide) (by decide) (by decide)))).run G0 H0 G1 H1 σ m1 _ w1 (by omega) fun d2 v2 G2 H2 m2 pd2 w2 g2 l2 av2 => ?_
      subst pd2
      show spFilled K ([V.ref a, v, v2] ++ []) H2 Q C8.E0
      refine ⟨b, 2 * S, .some a, G2, [.opq (.ref a), bkD b, .int ((2 * S : Nat) : Int)], m2, .cons (.opq _) (.cons (av.mono g2.gg) (.cons ?_ .nil)), rfl, w2.gd.sub, w2.pot, fun c e => w2.gnone e, by omega, ⟨a, rfl, rfl, db.good, by omega⟩, fun d v3 G3 H3 m3 pd3 g3 p3 l3 av3 => ?_⟩
      · have : ((2 * S : Nat) : Int) = 2 * (S : Int) := by omega
        rw [this]
        exact av2
      · obtain ⟨ss, rfl, e1, e2⟩ := pd3
        refine q _ v3 G3 H3 m3 ⟨_, rfl, ?_⟩ (w2.step g3 p3) (Gd.trans w2.pot (Gd.trans w1.pot g1 g2) g3) (by omega) av3
        have el : ss.length = b.stations.length := by
          have := congrArg List.length e1
          simpa using this
        refine ⟨db.good.anew (names_of e1), db.w, by show ss.length ≤ S; rw [el]; exact db.s, db.l, db.m0, db.late, fun s hs => ?_, fun s hs => ?_⟩
        · have : (s.1, s.2.1) ∈ ss.map (fun s => (s.1, s.2.1)) := List.mem_map.mpr ⟨s, hs, rfl⟩
          rw [e1] at this
          obtain ⟨s', hs', e⟩ := List.mem_map.mp this
          have : s'.2.1 = s.2.1 := by
            have := congrArg (fun p : Str × Int => p.2) e
            exact this
          rw [← this]
          exact db.lev s' hs'
        · have := e2 s hs
          have h3 : (600 : Int) * ((2 * S : Nat) : Int) ≤ 30000 := by omega
          exact ⟨this.1, by omega⟩
    · exact fun d hd => .inl ⟨d, rfl, hd⟩
  · decide
end
end DN

namespace DN
open PySem PySem.Spec PyProof.Rows L2
variable [Tb]
def sI (i : Int) : Str := Str.ofString (toString i)
abbrev addS : R2 := fun x y H Q => ∃ i j, x = .str i ∧ y = .str j ∧ i.length + j.length ≤ sizeLine ∧ Q (.str (i ++ j)) H
def smallI (i : Int) : Prop := 0 ≤ i ∧ i < 10 ^ 9
theorem len_sI {i : Int} (h : smallI i) : (sI i).length ≤ 10 := Nat.le_trans (toString_length_le h.1 (by decide) h.2) (by decide)
theorem log_sI {i : Int} (h : smallI i) : i.natAbs.log2 < 1920 := by
  have : i.natAbs < 2 ^ 30 := by
    have := h.1
    have := h.2
    omega
  exact Nat.lt_trans (PySem.Flt.log2_lt_of (by decide) this) (by decide)
/-- a text and a bound of its length -/
structure EDS (ρ : Rh) (K : PySem.W.Frag) (te : TE) (δ : Dl) (x : Str) (n : Nat) : Prop where
  ed : ED ρ K te δ (.str x)
  le : x.length ≤ n
section
variable {ρ : Rh} {K : PySem.W.Frag} {δ : Dl} {te ta tb : TE} {x y : Str} {n m : Nat} {i : Int}
theorem eds_c (h : x.length ≤ n) : EDS ρ K (tC (.str x)) δ x n := ⟨ed_str, h⟩
theorem eds_of (h : ED ρ K te δ (.str x)) (hl : x.length ≤ n) : EDS ρ K te δ x n := ⟨h, hl⟩
theorem eds_add (h1 : EDS ρ K ta δ x n) (h2 : EDS ρ K tb δ y m) (h : n + m ≤ 1000000) : EDS ρ K (tOp addS ta tb) δ (x ++ y) (n + m) :=
  ⟨ed_op h1.ed h2.ed (rj_addS (by have := h1.le; have := h2.le; omega)), by rw [str_lenA]; have := h1.le; have := h2.le; omega⟩
theorem eds_int (h : ED ρ K te δ (.int i)) (hs : smallI i) : EDS ρ K (tCB (fun xs H Q => ∃ i : Int, xs = [.int i] ∧ i.natAbs.log2 < 1920 ∧ Q (.str (Str.ofString (toString i))) H) (tCons te tNil)) δ (sI i) 10 :=
  ⟨ed_cb (eda_cons h eda_nil) (cj_str (log_sI hs)), len_sI hs⟩
end
def netRow (b : Bk) : Str := "net " ++ sI b.window ++ " " ++ sI b.margin ++ " " ++ sI b.late
def goalRow (b : Bk) : Str := "goal " ++ b.goal
def stRow (s : Stn) : Str := "station " ++ s.1 ++ " " ++ sI s.2.1 ++ " " ++ sI s.2.2
def lkRow (l : Lk) : Str := Txt.join " " ["link", l.1, l.2.1, sI l.2.2.1, sI l.2.2.2]
def bookRows (b : Bk) : List Str := [netRow b, goalRow b] ++ b.stations.map stRow ++ b.links.map lkRow
def bookText (b : Bk) : Str := Txt.join "\n" (bookRows b)
/-- a book whose text is told -/
structure TxOk (b : Bk) : Prop where
  w : smallI b.window
  m : smallI b.margin
  l : smallI b.late
  goal : b.goal.length ≤ 100
  st : ∀ s ∈ b.stations, s.1.length ≤ 100 ∧ smallI s.2.1 ∧ smallI s.2.2
  lk : ∀ l ∈ b.links, l.1.length ≤ 100 ∧ l.2.1.length ≤ 100 ∧ smallI l.2.2.1 ∧ smallI l.2.2.2
  ns : b.stations.length ≤ 100
  nl : b.links.length ≤ 300
theorem bk_window (b : Bk) : getD' (bkE b) (.inr "window") = some (.int b.window) := rfl
theorem bk_margin (b : Bk) : getD' (bkE b) (.inr "margin") = some (.int b.margin) := rfl
theorem bk_late (b : Bk) : getD' (bkE b) (.inr "late") = some (.int b.late) := rfl
theorem sum_le {f : Str → Nat} {n : Nat} : ∀ {l : List Str}, (∀ x ∈ l, f x ≤ n) → (l.map f).sum ≤ l.length * n
  | [], _ => by simp
  | x :: r, h => by
    have h1 := h x (List.mem_cons_self ..)
    have h2 := sum_le (l := r) fun y hy => h y (List.mem_cons_of_mem _ hy)
    rw [List.map_cons, List.sum_cons, List.length_cons, Nat.succ_mul]
    omega
theorem join_len (a : Str) (ys : List Str) : (Txt.join a ys).length ≤ (ys.map (·.length)).sum + ys.length * a.length := by
  show (Builtin.Str.glued a ys).length ≤ _
  rw [StrLaws.glued_eq_join]
  exact StrLaws.join_length_le a ys
theorem rows_le {b : Bk} (ok : TxOk b) : ∀ r ∈ bookRows b, r.length ≤ 300 := by
  intro r hr
  unfold bookRows at hr
  rw [List.mem_append, List.mem_append] at hr
  rcases hr with (hr | hr) | hr
  · have h1 := len_sI ok.w
    have h2 := len_sI ok.m
    have h3 := len_sI ok.l
    have h4 := ok.goal
    simp only [List.mem_cons, List.not_mem_nil, or_false] at hr
    rcases hr with rfl | rfl
    · unfold netRow
      simp only [str_lenA]
      show 4 + (sI b.window).length + 1 + (sI b.margin).length + 1 + (sI b.late).length ≤ 300
      omega
    · unfold goalRow
      rw [str_lenA]
      show 5 + b.goal.length ≤ 300
      omega
  · obtain ⟨s, hs, rfl⟩ := List.mem_map.mp hr
    obtain ⟨h1, h2, h3⟩ := ok.st s hs
    have := len_sI h2
    have := len_sI h3
    unfold stRow
    simp only [str_lenA]
    show 8 + s.1.length + 1 + (sI s.2.1).length + 1 + (sI s.2.2).length ≤ 300
    omega
  · obtain ⟨l, hl, rfl⟩ := List.mem_map.mp hr
    obtain ⟨h1, h2, h3, h4⟩ := ok.lk l hl
    have := len_sI h3
    have := len_sI h4
    refine Nat.le_trans (join_len _ _) ?_
    show (4 + (l.1.length + (l.2.1.length + ((sI l.2.2.1).length + ((sI l.2.2.2).length + 0))))) + 5 * 1 ≤ 300
    omega
section
variable {P : Program} {w : World} {K : PySem.W.Frag} {mg : Str → Option Value} {base : Heap}
def spText (K : PySem.W.Frag) : Sp := fun vs H Q E => ∃ b, TxOk b ∧ spJ K 1 (fun _ ds => ds = [bkD b]) 0 (fun _ d => d = .str (bookText b)) vs H Q E
theorem ok_text {f : Addr} {fd : FuncData} (F : Fun K "_law_book_text" "_law_book_text" s__law_book_text f fd) (T4 : mg "str" = none) : FnOk P w K mg base CX0 1 f fd ["own"] (spText K) := by
  refine F.ok sc__law_book_text (fun vs H Q E h => by obtain ⟨b, _, h⟩ := h; exact spJ_len h) (fun cdv A outer s H vs Q E hr h => ?_)
  obtain ⟨b, ok, h⟩ := h
  refine ⟨_, (pss_cons (ps_set (i := 1) sc__law_book_text.nd rfl (by first | exact Or.inl rfl | exact Or.inr rfl) (pe_lst (pa_cons (pe_op op_add_str (pe_op op_add_str (pe_op op_add_str (pe_op op_add_str (pe_op op_add_str pe_str (pe_callTy call_str_int (by rfl) T4 (by decide +kernel) (pa_cons (pe_dget (hu_of hr) (pv 0) pe_str (fun _ _ => rfl)) pa_nil))) pe_str) (pe_callTy call_str_int (by rfl) T4 (by decide +kernel) (pa_cons (pe_dget (hu_of hr) (pv 0) pe_str (fun _ _ => rfl)) pa_nil))) pe_str) (pe_callTy call_str_int (by rfl) T4 (by decide +kernel) (pa_cons (pe_dget (hu_of hr) (pv 0) pe_str (fun _ _ => rfl)) pa_nil))) (pa_cons (pe_op op_add_str pe_str (pe_dget (hu_of hr) (pv 0) pe_str (fun _ _ => rfl))) pa_nil))))
 (pss_cons (ps_expr (pe_bm PySem.F.plainAttrs_list PySem.F.slot_list_extend PySem.F.type_list_extend mt_extend (pv 1) (pa_cons (pe_lc (own := [("name", 2), ("level", 3), ("put", 4)]) (g := (gTup K 3 (gCons (gName 2) (gCons (gName 3) (gCons (gName 4) gNil))))) rfl sc__law_book_text.nd (pi_list (pe_dget (hu_of hr) (pv 0) pe_str (fun _ _ => rfl))) (blkOk_by (N := ["own", "rows", "name", "level", "put", "link"]) (sc := defScope s__law_book_text) (by decide +kernel)) (fun _ _ _ _ _ => (pg_tup rfl (pgs_cons (pg_name (i := 2) sc__law_book_text.nd rfl (by first | exact Or.inl rfl | exact Or.inr rfl)) (pgs_cons (pg_name (i := 3) sc__law_book_text.nd rfl (by first | exact Or.inl rfl | exact Or.inr rfl)) (pgs_cons (pg_name (i := 4) sc__law_book_text.nd rfl (by first | exact Or.inl rfl | exact Or.inr rfl)) pgs_nil))))) (fun _ _ _ _ _ => pts_nil) (fun _ _ _ _ _ => (pe_op op_add_str (pe_op op_add_str (pe_op op_add_str (pe_op op_add_str (pe_op op_add_str pe_str (pv 2)) pe_str) (pe_callTy call_str_int (by rfl) T4 (by decide +kernel) (pa_cons (pv 3) pa_nil))) pe_str) (pe_callTy call_str_int (by rfl) T4 (by decide +kernel) (pa_cons (pv 4) pa_nil))))) pa_nil)))
 (pss_cons (ps_expr (pe_bm PySem.F.plainAttrs_list PySem.F.slot_list_extend PySem.F.type_list_extend mt_extend (pv 1) (pa_cons (pe_lc (own := [("link", 5)]) rfl sc__law_book_text.nd (pi_list (pe_dget (hu_of hr) (pv 0) pe_str (fun _ _ => rfl))) (blkOk_by (N := ["own", "rows", "name", "level", "put", "link"]) (sc := defScope s__law_book_text) (by decide +kernel)) (fun _ _ _ _ _ => (pg_name (i := 5) sc__law_book_text.nd rfl (by first | exact Or.inl rfl | exact Or.inr rfl))) (fun _ _ _ _ _ => pts_nil) (fun _ _ _ _ _ => (pe_bmK K (by rfl) PySem.F.plainAttrs_str PySem.F.slot_str_join PySem.F.type_str_join (mt_joinK K (by rfl)) pe_str (pa_cons (pe_lst (pa_cons pe_str (pa_cons (pe_ix (r := rIxT K) ix_tup (pv 5) pe_int (fun _ _ => rfl)) (pa_cons (pe_ix (r := rIxT K) ix_tup (pv 5) pe_int (fun _ _ => rfl)) (pa_cons (pe_callTy call_str_int (by rfl) T4 (by decide +kernel) (pa_cons (pe_ix (r := rIxT K) ix_tup (pv 5) pe_int (fun _ _ => rfl)) pa_nil)) (pa_cons (pe_callTy call_str_int (by rfl) T4 (by decide +kernel) (pa_cons (pe_ix (r := rIxT K) ix_tup (pv 5) pe_int (fun _ _ => rfl)) pa_nil)) pa_nil)))))) pa_nil)))) pa_nil)))
 (pss_one (ps_ret (pe_bmK K (by rfl) PySem.F.plainAttrs_str PySem.F.slot_str_join PySem.F.type_str_join (mt_joinK K (by rfl)) pe_str (pa_cons (pv 1) pa_nil))))))), body_of (n := 1) (fun ρ ds hl hp => ?_) h⟩
  subst hp
  try dsimp only [cxOf, Cx.nox, Cx.wish]
  have l4 : ∀ {z : Str} {n : Nat}, z.length ≤ n → z.length ≤ n := fun h => h
  apply ex_k
  · have hget : ∀ {k : Str} {d : D} {δ : Dl}, getD' (bkE b) (.inr k) = some d → δ[0]? = some (some (.val (bkD b))) → ED ρ K (tDGet (tVar 0) (tC (.str k))) δ d := fun hg h0 => ed_dget (x := .inr _) (ed_var h0) ed_str hg
    have hnet : ∀ {δ : Dl}, δ[0]? = some (some (.val (bkD b))) → EDS ρ K _ δ (netRow b) _ := fun {δ} h0 =>
      eds_add (eds_add (eds_add (eds_add (eds_add (eds_c (x := "net ") (n := 4) (by decide)) (eds_int (hget (bk_window b) h0) ok.w) (by decide)) (eds_c (x := " ") (n := 1) (by decide)) (by decide)) (eds_int (hget (bk_margin b) h0) ok.m) (by decide)) (eds_c (x := " ") (n := 1) (by decide)) (by decide)) (eds_int (hget (bk_late b) h0) ok.l) (by decide)
    have hgoal : ∀ {δ : Dl}, δ[0]? = some (some (.val (bkD b))) → EDS ρ K _ δ (goalRow b) _ := fun {δ} h0 => eds_add (eds_c (x := "goal ") (n := 5) (by decide)) (eds_of (hget (bk_goal b) h0) ok.goal) (by decide)
    apply sj_new (P := (· = .lst ([netRow b, goalRow b].map D.str)))
    · exact en_lst (PA := (· = [.str (netRow b), .str (goalRow b)])) (eda_cons (hnet rfl).ed (eda_cons (hgoal rfl).ed eda_nil)) (fun ds e => by subst e; show 2 ≤ 1000000; decide) fun ds e => by subst e; rfl
    rintro _ rfl
    apply sj_ext (es := (b.stations.map stRow).map D.str) rfl
    · apply EN.ej
      refine (en_lcE (L := [2, 3, 4]) (ds := b.stations.map statD) (p := fun _ => true) (f := fun d => match d with | .tup [.str x, .int y, .int z] => .str (stRow (x, y, z)) | _ => .non)
        (δt := fun d => match d with | .tup [x, y, z] => (((wipeD ((initD 6 [bkD b]).set 1 (some (.own (.lst ([netRow b, goalRow b].map D.str))))) [2, 3, 4]).set 2 (some (.val x))).set 3 (some (.val y))).set 4 (some (.val z)) | _ => [])
        (ij_list (hget (bk_stations b) rfl)) (fun i h => h) (by rw [List.length_map]; have := ok.ns; omega) (fun d hd => ?_) (fun d _ => eb_yes) (fun d hd _ => ?_)).mono (Nat.le_refl _) fun r e => ?_
      · obtain ⟨s, hs, rfl⟩ := List.mem_map.mp hd
        exact gj_tup (gsj_cons gj_name (gsj_cons gj_name (gsj_cons gj_name gsj_nil))) rfl
      · obtain ⟨s, hs, rfl⟩ := List.mem_map.mp hd
        obtain ⟨h1, h2, h3⟩ := ok.st s hs
        exact (eds_add (eds_add (eds_add (eds_add (eds_add (eds_c (x := "station ") (n := 8) (by decide)) (eds_of (x := s.1) (ed_var rfl) h1) (by decide)) (eds_c (x := " ") (n := 1) (by decide)) (by decide)) (eds_int (i := s.2.1) (ed_var rfl) h2) (by decide)) (eds_c (x := " ") (n := 1) (by decide)) (by decide)) (eds_int (i := s.2.2) (ed_var rfl) h3) (by decide)).ed
      · rw [e, filt_true, List.map_map, List.map_map]
        rfl
    · simp only [List.length_map]
      have := ok.ns
      show 2 + b.stations.length ≤ _
      omega
    apply sj_ext (es := (b.links.map lkRow).map D.str) rfl
    · apply EN.ej
      refine (en_lcE (L := [5]) (ds := b.links.map linkD) (p := fun _ => true) (f := fun d => match d with | .tup [.str x, .str y, .int z, .int u] => .str (lkRow (x, y, z, u)) | _ => .non)
        (ij_list (hget (bk_links b) rfl)) (fun i h => h) (by rw [List.length_map]; have := ok.nl; omega) (fun d hd => gj_name) (fun d _ => eb_yes) (fun d hd _ => ?_)).mono (Nat.le_refl _) fun r e => ?_
      · obtain ⟨l, hl, rfl⟩ := List.mem_map.mp hd
        obtain ⟨h1, h2, h3, h4⟩ := ok.lk l hl
        have hx : ∀ {j : Nat} {d : D} {δ : Dl}, δ[5]? = some (some (.val (linkD l))) → atI [D.str l.1, .str l.2.1, .int l.2.2.1, .int l.2.2.2] (j : Int) = some d → ED ρ K (tOp (rIxT K) (tVar 5) (tC (.int (j : Int)))) δ d := fun h0 e => ed_op (ed_var h0) ed_int (rj_ixT e)
        refine ed_join (ys := ["link", l.1, l.2.1, sI l.2.2.1, sI l.2.2.2]) (ed_lst (eda_cons ed_str (eda_cons (hx (j := 0) rfl rfl) (eda_cons (hx (j := 1) rfl rfl) (eda_cons (eds_int (hx (j := 2) rfl rfl) h3).ed (eda_cons (eds_int (hx (j := 3) rfl rfl) h4).ed eda_nil))))) (by show 5 ≤ 1000000; decide)) ?_
        have := len_sI h3
        have := len_sI h4
        show (4 + (l.1.length + (l.2.1.length + ((sI l.2.2.1).length + ((sI l.2.2.2).length + 0))))) + 5 * 1 ≤ 16000000
        omega
      · rw [e, filt_true, List.map_map, List.map_map]
        rfl
    · simp only [List.length_map, List.length_append]
      have := ok.ns
      have := ok.nl
      show 2 + b.stations.length + b.links.length ≤ _
      omega
    apply sj_frz 1 rfl
    apply sj_retP (P := (· = .str (bookText b)))
    · have e : ([netRow b, goalRow b].map D.str ++ (b.stations.map stRow).map D.str ++ (b.links.map lkRow).map D.str) = (bookRows b).map D.str := by simp [bookRows]
      rw [e]
      refine ed_join (ys := bookRows b) (ed_var rfl) ?_
      have h1 := sum_le (f := fun r => r.length) (rows_le ok)
      have h2 : (bookRows b).length ≤ 402 := by
        unfold bookRows
        simp only [List.length_append, List.length_map]
        have := ok.ns
        have := ok.nl
        show 2 + b.stations.length + b.links.length ≤ 402
        omega
      have h3 : (bookRows b).length * 300 ≤ 402 * 300 := Nat.mul_le_mul_right _ h2
      have h4 : (bookRows b).length * ("\n" : Str).length ≤ 402 * 1 := Nat.mul_le_mul h2 (by decide)
      exact Nat.le_trans (Nat.add_le_add h1 (Nat.le_refl _)) (by omega)
    rintro _ rfl
    exact .inl ⟨_, rfl, rfl⟩
  · decide
end
end DN

namespace DN
open PySem PySem.Spec PyProof.Rows L2
variable [Tb]
/-! a book of the def's own: a dict, and within it a list, which both may change -/
def bkV (b : Bk) (lv : V) (q : Addr) : List (Key × V) := [(.inr "window", .int b.window), (.inr "margin", .int b.margin), (.inr "goal", .str b.goal), (.inr "late", .int b.late), (.inr "links", lv), (.inr "stations", .ref q)]
structure BkP (K : PySem.W.Frag) (H0 G H : Hp) (b : Bk) (p q : Addr) (lv : V) (xs : List V) : Prop where
  hp : H p = some (.dK (bkV b lv q))
  hq : H q = some (.lst xs)
  ss : AtL K G xs (b.stations.map statD)
  ls : At K G lv (.lst (b.links.map linkD))
  gp : G p = none
  gq : G q = none
  zp : H0 p = none
  zq : H0 q = none
theorem BkP.ne {K : PySem.W.Frag} {H0 G H : Hp} {b : Bk} {p q : Addr} {lv : V} {xs : List V} (h : BkP K H0 G H b p q lv xs) : p ≠ q := fun z => by
  have := h.hp
  rw [z, h.hq] at this
  cases this
/-- slot i holds it -/
def BkAt (K : PySem.W.Frag) (H0 G H : Hp) (σ : L2.St) (i : Nat) (b : Bk) : Prop := ∃ p q lv xs, σ[i]? = some (some (.ref p)) ∧ BkP K H0 G H b p q lv xs
/-- no slot holds what may change -/
def vals (δ : Dl) : Bool := δ.all fun s => match s with | some (.own _) => false | some (.lent _) => false | _ => true
section
variable {ρ : Rh} {K : PySem.W.Frag} {E : XK} {δ δ' : Dl} {te ta tb tc : TE} {t u ts : TS} {tt tu : TT} {tA : TA} {k k1 k2 k3 : Nat} {P P1 P2 : D → Prop} {a c d d0 : D} {i j : Nat} {b : Bk}
theorem vals_get (h : vals δ = true) {s : Sl} (e : δ[j]? = some (some s)) : ∃ d, s = .val d := by
  have := List.all_eq_true.mp h _ (List.mem_of_getElem? e)
  cases s with
  | val d => exact ⟨d, rfl⟩
  | own d => cases this
  | lent d => cases this
theorem BkP.step {H0 G H G' H' : Hp} {p q : Addr} {lv : V} {xs : List V} (h : BkP K H0 G H b p q lv xs) (g : Gd ρ G H G' H') (hp : Fx ρ p) (hq : Fx ρ q) : BkP K H0 G' H' b p q lv xs := by
  obtain ⟨e1, e2⟩ := own_after g hp h.hp h.gp
  obtain ⟨e3, e4⟩ := own_after g hq h.hq h.gq
  exact ⟨e1, e3, h.ss.mono g.gg, h.ls.mono g.gg, e2, e4, h.zp, h.zq⟩
theorem Wf.rhoZ {G0 H0 G H : Hp} {σ : L2.St} {m : Nat} {p : Addr} (w : Wf ρ K G0 H0 G H σ δ m) (h : H0 p = none) : Fx ρ p := fun z => (w.pot0 p z).1 h
theorem BkAt.step {G0 H0 G H G' H' : Hp} {σ : L2.St} {m : Nat} (w : Wf ρ K G0 H0 G H σ δ m) (h : BkAt K H0 G H σ i b) (g : Gd ρ G H G' H') : BkAt K H0 G' H' σ i b := by
  obtain ⟨p, q, lv, xs, e, h⟩ := h
  exact ⟨p, q, lv, xs, e, h.step g (w.rhoZ h.zp) (w.rhoZ h.zq)⟩
/-- it stands still from here on -/
theorem Wf.bkFrz {G0 H0 G H : Hp} {σ : L2.St} {m : Nat} {p q : Addr} {lv : V} {xs : List V} (w : Wf ρ K G0 H0 G H σ δ m) (hv : vals δ = true) (hi : i < δ.length) (e : σ[i]? = some (some (.ref p))) (h : BkP K H0 G H b p q lv xs) :
    Wf ρ K G0 H0 (L2.upd (L2.upd G p (.dK (bkV b lv q))) q (.lst xs)) H σ (δ.set i (some (.val (bkD b)))) m := by
  have g1 : Same G (L2.upd G p (.dK (bkV b lv q))) := same_new h.gp
  have nq : (L2.upd G p (.dK (bkV b lv q))) q = none := by rw [upd_ne (fun z => h.ne z.symm)]; exact h.gq
  have g2 : Same (L2.upd G p (.dK (bkV b lv q))) (L2.upd (L2.upd G p (.dK (bkV b lv q))) q (.lst xs)) := same_new nq
  have gg := g1.trans g2
  have gp : (L2.upd (L2.upd G p (.dK (bkV b lv q))) q (.lst xs)) p = some (.dK (bkV b lv q)) := by rw [upd_ne h.ne, upd_same]
  have gq : (L2.upd (L2.upd G p (.dK (bkV b lv q))) q (.lst xs)) q = some (.lst xs) := upd_same
  refine ⟨by rw [List.length_set]; exact w.len, ⟨w.gd.keep, w.gd.gg.trans gg, fun x o ex => ?_, fun x ex => ?_, w.gd.ot⟩, w.pot, w.pot0, fun j s es => ?_, fun j l d e' n h1 h2 => ?_⟩
  · by_cases zq : x = q
    · subst zq; rw [upd_same] at ex; rw [h.hq]; exact ex
    · rw [upd_ne zq] at ex
      by_cases zp : x = p
      · subst zp; rw [upd_same] at ex; rw [h.hp]; exact ex
      · rw [upd_ne zp] at ex; exact w.gd.sub x o ex
  · by_cases zq : x = q
    · subst zq; exact .inr h.zq
    · rw [upd_ne zq] at ex
      by_cases zp : x = p
      · subst zp; exact .inr h.zp
      · rw [upd_ne zp] at ex; exact w.gd.new x ex
  · by_cases hj : i = j
    · subst hj
      rw [List.getElem?_set_self hi] at es
      cases es
      exact ⟨.ref p, e, .dct gp (.cons (.int _) (.cons (.int _) (.cons (.str _) (.cons (.int _) (.cons (h.ls.mono gg) (.cons (.lst gq (h.ss.mono gg)) .nil))))))⟩
    · rw [List.getElem?_set_ne hj] at es
      obtain ⟨d, rfl⟩ := vals_get hv es
      obtain ⟨x, hx, h2⟩ := w.sl j _ es
      exact ⟨x, hx, At.mono gg h2⟩
  · have no : ∀ {l : Nat} {x : D}, (δ.set i (some (.val (bkD b))))[l]? = some (some (.own x)) → False := by
      intro l x e
      by_cases hj : i = l
      · subst hj
        rw [List.getElem?_set_self hi] at e
        cases e
      · rw [List.getElem?_set_ne hj] at e
        obtain ⟨d, e2⟩ := vals_get hv e
        cases e2
    exact (no h1).elim
/-! expressions that read it -/
structure EJB (ρ : Rh) (K : PySem.W.Frag) (i : Nat) (b : Bk) (te : TE) (δ : Dl) (k : Nat) (P : D → Prop) : Prop where
  run : ∀ (G0 H0 G H : Hp) (σ : L2.St) (m : Nat) (Q : VK), Wf ρ K G0 H0 G H σ δ m → BkAt K H0 G H σ i b → m + k ≤ Mx →
    (∀ d v G' H' m', P d → Wf ρ K G0 H0 G' H' σ δ m' → BkAt K H0 G' H' σ i b → Gd ρ G H G' H' → m' ≤ m + k → At K G' v d → Q v H') → te σ H Q
structure ETB (ρ : Rh) (K : PySem.W.Frag) (i : Nat) (b : Bk) (tt : TT) (δ : Dl) (k : Nat) (P : Bool → Prop) : Prop where
  run : ∀ (G0 H0 G H : Hp) (σ : L2.St) (m : Nat) (Q : Bool → Hp → Prop), Wf ρ K G0 H0 G H σ δ m → BkAt K H0 G H σ i b → m + k ≤ Mx →
    (∀ x G' H' m', P x → Wf ρ K G0 H0 G' H' σ δ m' → BkAt K H0 G' H' σ i b → Gd ρ G H G' H' → m' ≤ m + k → Q x H') → tt σ H Q
structure ENB (ρ : Rh) (K : PySem.W.Frag) (i : Nat) (b : Bk) (te : TE) (δ : Dl) (k : Nat) (P : D → Prop) : Prop where
  run : ∀ (G0 H0 G H : Hp) (σ : L2.St) (m : Nat) (Q : VK), Wf ρ K G0 H0 G H σ δ m → BkAt K H0 G H σ i b → m + k ≤ Mx →
    (∀ d r o G' H' m', P d → Wf ρ K G0 H0 G' H' σ δ m' → BkAt K H0 G' H' σ i b → Gd ρ G H G' H' → m' ≤ m + k → H r = none → H' r = some o → OAt K G' o d → G' r = none → Q (.ref r) H') → te σ H Q
theorem Gd.thaw2 {G H G' H' : Hp} {p q : Addr} {o o2 : HO} (g : Gd ρ (L2.upd (L2.upd G p o) q o2) H G' H') (hp : G p = none) (hq : G q = none) (hne : p ≠ q) : Gd ρ G H (DN.thaw (DN.thaw G' q) p) H' :=
  (g.thaw (by rw [upd_ne (fun z => hne z.symm)]; exact hq)).thaw hp
theorem at_thaw2 {G H G' H' : Hp} {p q : Addr} {o o2 : HO} (g : Gd ρ (L2.upd (L2.upd G p o) q o2) H G' H') (hne : p ≠ q) (h1 : isLd o = true) (h2 : isLd o2 = true) {v : V} {d : D} (h : At K G' v d) (ht : tupO d = true) : At K (DN.thaw (DN.thaw G' q) p) v d := by
  have e1 : G' q = some o2 := g.gg _ _ upd_same
  have e2 : G' p = some o := g.gg _ _ (by rw [upd_ne hne, upd_same])
  exact at_thawT (by rw [thaw_ne hne]; exact e2) h1 (at_thawT e1 h2 h ht) ht
theorem atL_thaw2 {G H G' H' : Hp} {p q : Addr} {o o2 : HO} (g : Gd ρ (L2.upd (L2.upd G p o) q o2) H G' H') (hne : p ≠ q) (h1 : isLd o = true) (h2 : isLd o2 = true) {v : List V} {d : List D} (h : AtL K G' v d) (ht : tupOL d = true) : AtL K (DN.thaw (DN.thaw G' q) p) v d := by
  have e1 : G' q = some o2 := g.gg _ _ upd_same
  have e2 : G' p = some o := g.gg _ _ (by rw [upd_ne hne, upd_same])
  exact atL_thawT (by rw [thaw_ne hne]; exact e2) h1 (atL_thawT e1 h2 h ht) ht
theorem ejb_peek (hv : vals δ = true) (hi : i < δ.length) (h : EJ ρ K te (δ.set i (some (.val (bkD b)))) k P) (ht : ∀ d, P d → tupO d = true) : EJB ρ K i b te δ k P := .mk fun G0 H0 G H σ m Q w hb hm q => by
  obtain ⟨p, r, lv, xs, e, hb'⟩ := id hb
  refine h.run G0 H0 _ H σ m Q (w.bkFrz hv hi e hb') hm fun d v G' H' m' pd w2 g l x => ?_
  have g3 := g.thaw2 hb'.gp hb'.gq hb'.ne
  exact q d v _ H' m' pd (w.step g3 w2.pot) (hb.step w g3) g3 l (at_thaw2 g hb'.ne rfl rfl x (ht d pd))
theorem etb_peek {PB : Bool → Prop} (hv : vals δ = true) (hi : i < δ.length) (h : ET ρ K tt (δ.set i (some (.val (bkD b)))) k PB) : ETB ρ K i b tt δ k PB := .mk fun G0 H0 G H σ m Q w hb hm q => by
  obtain ⟨p, r, lv, xs, e, hb'⟩ := id hb
  refine h.run G0 H0 _ H σ m Q (w.bkFrz hv hi e hb') hm fun d G' H' m' pd w2 g l => ?_
  have g3 := g.thaw2 hb'.gp hb'.gq hb'.ne
  exact q d _ H' m' pd (w.step g3 w2.pot) (hb.step w g3) g3 l
theorem enb_peek (hv : vals δ = true) (hi : i < δ.length) (h : EN ρ K te (δ.set i (some (.val (bkD b)))) k P) (ht : ∀ d, P d → ∃ ds, d = .lst ds ∧ tupOL ds = true) : ENB ρ K i b te δ k P := .mk fun G0 H0 G H σ m Q w hb hm q => by
  obtain ⟨p, r, lv, xs, e, hb'⟩ := id hb
  refine h.run G0 H0 _ H σ m Q (w.bkFrz hv hi e hb') hm fun d s o G' H' m' pd w2 g l hs ho x hgs => ?_
  have g3 := g.thaw2 hb'.gp hb'.gq hb'.ne
  obtain ⟨ds, rfl, hf⟩ := ht d pd
  refine q _ s o _ H' m' pd (w.step g3 w2.pot) (hb.step w g3) g3 l hs ho ?_ ?_
  · cases x with
    | lst hl => exact .lst (atL_thaw2 g hb'.ne rfl rfl hl hf)
  · have h1 : DN.thaw G' r s = none := by
      by_cases z : s = r
      · subst z; exact thaw_same
      · rw [thaw_ne z]; exact hgs
    by_cases z : s = p
    · subst z; exact thaw_same
    · rw [thaw_ne z]; exact h1
/-! statements -/
/-- what is told of an end: as before, or the book itself is given back -/
inductive OutB where
  | o (x : Out) | rtB (b : Bk)
def EndsB (ρ : Rh) (K : PySem.W.Frag) (G0 H0 : Hp) (D : Ends) (E : XK) (m : Nat) : OutB → Prop
  | .o x => EndsOk ρ K G0 H0 D E m x
  | .rtB b => ∀ p q lv xs G' H' m', Gd ρ G0 H0 G' H' → PotS ρ m' H' → m' ≤ m → BkP K H0 G' H' b p q lv xs → D.rt (.ref p) H'
theorem EndsB.le {G0 H0 : Hp} {D : Ends} {m n : Nat} (h : m ≤ n) : ∀ {o : OutB}, EndsB ρ K G0 H0 D E n o → EndsB ρ K G0 H0 D E m o
  | .o x, q => EndsOk.le h q
  | .rtB b, q => fun p r lv xs G' H' m' g pp l => q p r lv xs G' H' m' g pp (by omega)
structure SB (ρ : Rh) (K : PySem.W.Frag) (E : XK) (i : Nat) (b : Bk) (ts : TS) (δ : Dl) (k : Nat) (PO : OutB → Prop) : Prop where
  run : ∀ (G0 H0 G H : Hp) (σ : L2.St) (m : Nat) (D : Ends), Wf ρ K G0 H0 G H σ δ m → BkAt K H0 G H σ i b → m + k ≤ Mx → (∀ o, PO o → EndsB ρ K G0 H0 D E (m + k) o) → ts D σ H
variable {PO : OutB → Prop}
theorem sb_le {k' : Nat} (h : SB ρ K E i b ts δ k PO) (hk : k ≤ k') : SB ρ K E i b ts δ k' PO := .mk fun G0 H0 G H σ m D w hb hm q => h.run G0 H0 G H σ m D w hb (by omega) fun o p => (q o p).le (by omega)
theorem sb_frz (hv : vals δ = true) (hi : i < δ.length) (h : SJ ρ K E ts (δ.set i (some (.val (bkD b)))) k (fun o => PO (.o o))) : SB ρ K E i b ts δ k PO := .mk fun G0 H0 G H σ m D w hb hm q => by
  obtain ⟨p, r, lv, xs, e, hb'⟩ := hb
  exact h.run G0 H0 _ H σ m D (w.bkFrz hv hi e hb') hm fun o po => q (.o o) po
theorem sb_ret (h : PO (.rtB b)) : SB ρ K E i b (tRet (tVar i)) δ 0 PO := .mk fun G0 H0 G H σ m D w hb hm q => by
  obtain ⟨p, r, lv, xs, e, hb'⟩ := hb
  exact ⟨_, e, q (.rtB b) h p r lv xs G H m w.gd w.pot (by omega) hb'⟩
theorem sb_set (hij : i ≠ j) (h : EJB ρ K i b te δ k1 P) (hn : ∀ d, P d → SB ρ K E i b u (δ.set j (some (.val d))) k2 PO) : SB ρ K E i b (tSeq (tAsg te (gName j)) u) δ (k1 + k2) PO := .mk fun G0 H0 G H σ m D w hb hm q =>
  h.run G0 H0 G H σ m _ w hb (by omega) fun d v G' H' m' pd w' hb' g l x => by
    obtain ⟨p, r, lv, xs, e, hb2⟩ := hb'
    exact (hn d pd).run G0 H0 G' H' _ m' D (w'.set x) ⟨p, r, lv, xs, by rw [List.getElem?_set_ne (fun z => hij z.symm)]; exact e, hb2⟩ (by omega) fun o po => (q o po).le (by omega)
theorem sb_asg {g : TG} {L : List Nat} {δ' : D → Dl} (hL : i ∉ L) (h : EJB ρ K i b te δ k1 P) (hg : ∀ d, P d → GJ ρ K g L d δ (δ' d)) (hn : ∀ d, P d → SB ρ K E i b u (δ' d) k2 PO) : SB ρ K E i b (tSeq (tAsg te g) u) δ (k1 + k2) PO := .mk fun G0 H0 G H σ m D w hb hm q =>
  h.run G0 H0 G H σ m _ w hb (by omega) fun d v G' H' m' pd w' hb' gd l x => (hg d pd).run G0 H0 G' H' σ v m' _ w' x fun σ2 w2 hw => by
    obtain ⟨p, r, lv, xs, e, hb2⟩ := hb'
    have e2 : σ2[i]? = σ[i]? := by
      have := hw L fun _ h => h
      rw [← wipe_ne (σ := σ2) hL, this, wipe_ne hL]
    exact (hn d pd).run G0 H0 G' H' _ m' D w2 ⟨p, r, lv, xs, by rw [e2]; exact e, hb2⟩ (by omega) fun o po => (q o po).le (by omega)
theorem sb_ifs {PT : Bool → Prop} {r : TS} (h : ETB ρ K i b tt δ k1 PT) (ht : PT true → SB ρ K E i b (tSeq t r) δ k2 PO) (hf : PT false → SB ρ K E i b (tSeq u r) δ k3 PO) : SB ρ K E i b (tSeq (tIfS tt t u) r) δ (k1 + (k2 + k3)) PO := .mk fun G0 H0 G H σ m D w hb hm q =>
  h.run G0 H0 G H σ m _ w hb (by omega) fun x G1 H1 m1 px w1 hb1 g1 l1 => by
    cases x with
    | true => exact iteT ((ht px).run G0 H0 G1 H1 σ m1 D w1 hb1 (by omega) fun o po => (q o po).le (by omega))
    | false => exact iteF ((hf px).run G0 H0 G1 H1 σ m1 D w1 hb1 (by omega) fun o po => (q o po).le (by omega))
theorem sb_next {r : TS} (h : SB ρ K E i b r δ k PO) : SB ρ K E i b (tSeq tNext r) δ k PO := h
theorem vals_noown (hv : vals δ = true) {G0 H0 G H H' : Hp} {σ : L2.St} {m : Nat} (w : Wf ρ K G0 H0 G H σ δ m) (g : Gd ρ G0 H0 G H') (p : PotS ρ m H') : Wf ρ K G0 H0 G H' σ δ m :=
  ⟨w.len, g, p, w.pot0, fun j s e => by
    obtain ⟨d, rfl⟩ := vals_get hv e
    exact w.sl j _ e, fun j l d e n h1 h2 => by
    obtain ⟨d, e2⟩ := vals_get hv h1
    cases e2⟩
/-- own['stations'][at] = e -/
theorem sb_mut {n : Nat} {PS : Stn → Prop} (hv : vals δ = true) (h : EJB ρ K i b te δ k1 (fun d => ∃ s, d = statD s ∧ PS s)) (hj : δ[j]? = some (some (.val (.int (n : Int))))) (hn : n < b.stations.length)
    (hu : ∀ s, PS s → SB ρ K E i { b with stations := b.stations.set n s } u δ k2 PO) : SB ρ K E i b (tSeq (tAsg te (gSub (tDGet (tVar i) (tC (.str "stations"))) (tVar j) rSetL)) u) δ (k1 + k2) PO := .mk fun G0 H0 G H σ m D w hb hm q =>
  h.run G0 H0 G H σ m _ w hb (by omega) fun d v G' H' m' pd w' hb' g l x => by
    obtain ⟨s, rfl, ps⟩ := pd
    obtain ⟨p, r, lv, xs, e, h2⟩ := hb'
    obtain ⟨vj, ej, aj⟩ := w'.sl j _ hj
    cases aj
    refine ⟨_, e, p, .ref r, rfl, ?_, _, ej, r, xs, (n : Int), n, rfl, rfl, h2.hq, ixN_nat (by rw [h2.ss.len, List.length_map]; exact hn), ?_⟩
    · have := DGet.k (H := H') (a := p) (kvs := bkV b lv r) (k := .inr "stations") h2.hp
      exact this
    · have nr := w'.rhoZ h2.zq
      have sub : Same G' (L2.upd H' r (.lst (xs.set n v))) := fun y o ey => by
        have : y ≠ r := fun z => by rw [z, h2.gq] at ey; cases ey
        rw [upd_ne this]; exact w'.gd.sub y o ey
      have gd : Gd ρ G0 H0 G' (L2.upd H' r (.lst (xs.set n v))) := ⟨fun y o ny ey => by
        rw [upd_ne (ne_of_none ey h2.zq)]; exact w'.gd.keep y o ny ey, w'.gd.gg, sub, w'.gd.new, fun h => (w'.gd.ot h).upd (by (intro _ z; cases z))⟩
      have pot : PotS ρ m' (L2.upd H' r (.lst (xs.set n v))) := w'.pot.set nr h2.hq rfl
      refine (hu s ps).run G0 H0 G' _ σ m' D (vals_noown hv w' gd pot) ⟨p, r, lv, xs.set n v, e, ?_⟩ (by omega) fun o po => (q o po).le (by omega)
      refine ⟨by rw [upd_ne h2.ne]; exact h2.hp, upd_same, ?_, h2.ls, h2.gp, h2.gq, h2.zp, h2.zq⟩
      have := AtL.set x n h2.ss
      rw [← List.map_set] at this
      exact this
/-- own['stations'] = [..] -/
theorem sb_put {PS : List Stn → Prop} (hv : vals δ = true) (h : ENB ρ K i b tc δ k1 (fun d => ∃ ss : List Stn, d = .lst (ss.map statD) ∧ PS ss)) (hu : ∀ ss : List Stn, PS ss → SB ρ K E i { b with stations := ss } u δ k2 PO) :
    SB ρ K E i b (tSeq (sDPut (tVar i) (tC (.str "stations")) tc) u) δ (k1 + k2) PO := .mk fun G0 H0 G H σ m D w hb hm q =>
  h.run G0 H0 G H σ m _ w hb (by omega) fun d s o G' H' m' pd w' hb' g l hs ho x hgs => by
    obtain ⟨ss, rfl, ps⟩ := pd
    obtain ⟨p, r, lv, xs, e, h2⟩ := hb'
    cases x with
    | @lst ys _ hy =>
      refine ⟨_, e, p, _, rfl, .inl ⟨_, .inr "stations", h2.hp, rfl, (by show 6 < sizeLine; decide), rfl⟩, ?_⟩
      have eput : putK (bkV b lv r) (.inr "stations") (V.ref s) = bkV { b with stations := ss } lv s := rfl
      rw [eput]
      have nr := w'.rhoZ h2.zp
      have hsp : s ≠ p := fun z => by rw [z, h2.hp] at ho; cases ho
      have sub : Same G' (L2.upd H' p (.dK (bkV { b with stations := ss } lv s))) := fun y o ey => by
        have : y ≠ p := fun z => by rw [z, h2.gp] at ey; cases ey
        rw [upd_ne this]; exact w'.gd.sub y o ey
      have gd : Gd ρ G0 H0 G' (L2.upd H' p (.dK (bkV { b with stations := ss } lv s))) := ⟨fun y o ny ey => by
        rw [upd_ne (ne_of_none ey h2.zp)]; exact w'.gd.keep y o ny ey, w'.gd.gg, sub, w'.gd.new, fun h => (w'.gd.ot h).upd (by (intro _ z; cases z))⟩
      have pot : PotS ρ m' (L2.upd H' p (.dK (bkV { b with stations := ss } lv s))) := w'.pot.set nr h2.hp rfl
      refine (hu ss ps).run G0 H0 G' _ σ m' D (vals_noown hv w' gd pot) ⟨p, s, lv, ys, e, ?_⟩ (by omega) fun o po => (q o po).le (by omega)
      exact ⟨upd_same, by rw [upd_ne hsp]; exact ho, hy, h2.ls, h2.gp, hgs, h2.zp, w.fresh hs⟩
end
end DN

namespace DN
open PySem PySem.Spec PyProof.Rows L2
variable [Tb]
/-- a def's promise that gives a book as one's own -/
def spBkJ (K : PySem.W.Frag) (n : Nat) (pre : Rh → List D → Prop) (c : Nat) (post : Bk → Prop) : Sp := fun vs H Q _ => ∃ (ρ : Rh) (G : Hp) (ds : List D) (m : Nat), AtL K G vs ds ∧ ds.length = n ∧ Same G H ∧ PotS ρ m H ∧
  (∀ a, Mv ρ a → G a = none) ∧ m + c ≤ Mx ∧ pre ρ ds ∧ ∀ b p q lv xs G' H' m', post b → Gd ρ G H G' H' → PotS ρ m' H' → m' ≤ m + c → BkP K H G' H' b p q lv xs → Q (.ref p) H'
theorem spBkJ_len {K : PySem.W.Frag} {n c : Nat} {pre : Rh → List D → Prop} {post : Bk → Prop} {vs : List V} {H : Hp} {Q : VK} {E : XK} (h : spBkJ K n pre c post vs H Q E) : vs.length = n := by
  obtain ⟨ρ, G, ds, m, h1, h2, _⟩ := h
  rw [h1.len]; exact h2
structure SJB (ρ : Rh) (K : PySem.W.Frag) (E : XK) (ts : TS) (δ : Dl) (k : Nat) (PO : OutB → Prop) : Prop where
  run : ∀ (G0 H0 G H : Hp) (σ : L2.St) (m : Nat) (D : Ends), Wf ρ K G0 H0 G H σ δ m → m + k ≤ Mx → (∀ o, PO o → EndsB ρ K G0 H0 D E (m + k) o) → ts D σ H
section
variable {ρ : Rh} {K : PySem.W.Frag} {E : XK} {δ δ' : Dl} {te ta tb tc : TE} {t u ts : TS} {tt tu : TT} {tA : TA} {k k1 k2 k3 : Nat} {P P1 P2 : D → Prop} {a c d d0 : D} {i j : Nat} {b : Bk} {PO : OutB → Prop}
theorem sjb_split {A F rest : TS} {R : Dl → Prop} (h : SJ ρ K E (tSeq A (tSeq F tNext)) δ k1 (fun o => ∃ δ', o = .nx δ' ∧ R δ')) (hr : ∀ δ', R δ' → SJB ρ K E rest δ' k2 PO) : SJB ρ K E (tSeq A (tSeq F rest)) δ (k1 + k2) PO := .mk fun G0 H0 G H σ m D w hm q =>
  h.run G0 H0 G H σ m { D with nx := fun σ' H' => rest D σ' H' } w (by omega) fun o po => by
    obtain ⟨δ', rfl, hR⟩ := po
    exact fun G' H' σ' m' w' l => (hr δ' hR).run G0 H0 G' H' σ' m' D w' (by omega) fun o po => (q o po).le (by omega)
theorem sjb_new (h : EN ρ K te δ k1 P) (hn : ∀ d, P d → SJB ρ K E u (δ.set i (some (.own d))) k2 PO) : SJB ρ K E (tSeq (tAsg te (gName i)) u) δ (k1 + k2) PO := .mk fun G0 H0 G H σ m D w hm q =>
  (h).run G0 H0 G H σ m _ w (by omega) fun d r o G' H' m' p w' g l hp ho ha hg => (hn d p).run G0 H0 G' H' _ m' D (w'.setOwn (w.fresh hp) ho ha hg fun j e _ hj => w.notOwn hp hj) (by omega) fun o po => (q o po).le (by omega)
/-- found['stations'] = [..]: found is a book of one's own from here on -/
theorem sjb_putBk {δ2 : Dl} {PS : List Stn → Prop} (hi : δ[i]? = some (some (.own (bkD b)))) (hf : Fewer δ2 (δ.set i none)) (hv : vals δ2 = true) (h : EN ρ K tc δ k1 (fun d => ∃ ss : List Stn, d = .lst (ss.map statD) ∧ PS ss)) (hu : ∀ ss : List Stn, PS ss → SB ρ K E i { b with stations := ss } u δ2 k2 PO) :
    SJB ρ K E (tSeq (sDPut (tVar i) (tC (.str "stations")) tc) u) δ (k1 + k2) PO := .mk fun G0 H0 G H σ m D w hm q =>
  h.run G0 H0 G H σ m _ w (by omega) fun d s o G' H' m' pd w' g l hs ho x hgs => by
    obtain ⟨ss, rfl, ps⟩ := pd
    obtain ⟨v0, e, p, o0, rfl, hp, hoa, hgp, hzp⟩ := w'.sl i _ hi
    cases x with
    | @lst ys _ hy =>
      have hoa' : OAt K G' o0 (.dct (bkE b)) := hoa
      cases hoa' with
      | @dct kvs _ hk =>
        have hex : ∃ lv v6, kvs = [(.inr "window", .int b.window), (.inr "margin", .int b.margin), (.inr "goal", .str b.goal), (.inr "late", .int b.late), (.inr "links", lv), (.inr "stations", v6)] ∧ At K G' lv (.lst (b.links.map linkD)) := by
          unfold bkE at hk
          cases hk with
          | cons a1 hk => cases hk with
            | cons a2 hk => cases hk with
              | cons a3 hk => cases hk with
                | cons a4 hk => cases hk with
                  | cons a5 hk => cases hk with
                    | cons a6 hk =>
                      cases hk
                      cases a1
                      cases a2
                      cases a3
                      cases a4
                      exact ⟨_, _, rfl, a5⟩
        obtain ⟨lv, v6, rfl, hlv⟩ := hex
        have nr := w'.rhoZ hzp
        have hsp : s ≠ p := fun z => by rw [z, hp] at ho; cases ho
        refine ⟨_, e, p, _, rfl, .inl ⟨_, .inr "stations", hp, rfl, (by show 6 < sizeLine; decide), rfl⟩, ?_⟩
        have eput : putK [((.inr "window" : Key), V.int b.window), (.inr "margin", .int b.margin), (.inr "goal", .str b.goal), (.inr "late", .int b.late), (.inr "links", lv), (.inr "stations", v6)] (.inr "stations") (V.ref s) = bkV { b with stations := ss } lv s := rfl
        rw [eput]
        have sub : Same G' (L2.upd H' p (.dK (bkV { b with stations := ss } lv s))) := fun y o ey => by
          have : y ≠ p := fun z => by rw [z, hgp] at ey; cases ey
          rw [upd_ne this]; exact w'.gd.sub y o ey
        have gd : Gd ρ G0 H0 G' (L2.upd H' p (.dK (bkV { b with stations := ss } lv s))) := ⟨fun y o ny ey => by
          rw [upd_ne (ne_of_none ey hzp)]; exact w'.gd.keep y o ny ey, w'.gd.gg, sub, w'.gd.new, fun h => (w'.gd.ot h).upd (by (intro _ z; cases z))⟩
        have pot : PotS ρ m' (L2.upd H' p (.dK (bkV { b with stations := ss } lv s))) := w'.pot.set nr hp rfl
        have w2 : Wf ρ K G0 H0 G' H' σ δ2 m' := by
          refine w'.fewer ?_ fun l s' e' => ?_
          · rw [hf.len, List.length_set]
          · have := hf.get l s' e'
            by_cases z : i = l
            · subst z
              by_cases hl : i < δ.length
              · rw [List.getElem?_set_self hl] at this; cases this
              · rw [List.getElem?_eq_none (by rw [List.length_set]; omega)] at this; cases this
            · rw [List.getElem?_set_ne z] at this; exact this
        refine (hu ss ps).run G0 H0 G' _ σ m' D (vals_noown hv w2 gd pot) ⟨p, s, lv, ys, e, ?_⟩ (by omega) fun o po => (q o po).le (by omega)
        exact ⟨upd_same, by rw [upd_ne hsp]; exact ho, hy, hlv, hgp, hgs, hzp, w.fresh hs⟩
theorem bodyB_of {N : List Str} {n c : Nat} {pre : Rh → List D → Prop} {post : Bk → Prop} {vs : List V} {H : Hp} {Q : VK} {EE : XK}
    (hb : ∀ ρ ds, ds.length = n → pre ρ ds → ∃ k, k ≤ c ∧ SJB ρ K EE ts (initD N.length ds) k (fun o => ∃ b, o = .rtB b ∧ post b)) (h : spBkJ K n pre c post vs H Q EE) :
    ts { nx := fun _ H' => Q .non H', rt := Q } (L2.start N vs) H := by
  obtain ⟨ρ, G, ds, m, ha, hl, hs, hp, hg, hm, hpre, q⟩ := h
  obtain ⟨k, hk, hb⟩ := hb ρ ds hl hpre
  refine hb.run G H G H (L2.start N vs) m _ (body_wf ha hs hp hg) (by omega) fun o po => ?_
  obtain ⟨b, rfl, pb⟩ := po
  exact fun p q' lv xs G' H' m' g pp l h => q b p q' lv xs G' H' m' pb g pp (by omega) h
theorem ex_kB {c : Nat} (h : SJB ρ K E ts δ k PO) (hk : k ≤ c) : ∃ k, k ≤ c ∧ SJB ρ K E ts δ k PO := ⟨k, hk, h⟩
/-- a call that gives a book as one's own, given back as it is -/
theorem sjb_retCall {n cc : Nat} {PA : List D → Prop} {EE : XK} {sp : Sp} (h : EA ρ K tA δ k PA) (hs : ∀ ds, PA ds → ∃ (pre : Rh → List D → Prop) (post : Bk → Prop), (∀ vs H Q, spBkJ K n pre cc post vs H Q EE → sp vs H Q EE) ∧ ds.length = n ∧ pre ρ ds ∧ ∀ b, post b → PO (.rtB b)) :
    SJB ρ K E (tRet (tCall sp [] EE tA)) δ (k + cc) PO := .mk fun G0 H0 G H σ m D w hm q =>
  h.run G0 H0 G H σ m _ w (by omega) fun ds vs G1 H1 m1 px w1 g1 l1 ax => by
    show sp (vs ++ []) H1 _ EE
    rw [List.append_nil]
    obtain ⟨pre, post, hsp, hl, hpre, h2⟩ := hs ds px
    exact hsp _ _ _ ⟨ρ, G1, ds, m1, ax, hl, w1.gd.sub, w1.pot, fun a e => w1.gnone e, by omega, hpre, fun b p r lv xs G2 H2 m2 pb g2 p2 l2 hbk => by
      have w2 := w1.step g2 p2
      exact q (.rtB b) (h2 b pb) p r lv xs G2 H2 m2 w2.gd p2 (by omega) ⟨hbk.hp, hbk.hq, hbk.ss, hbk.ls, hbk.gp, hbk.gq, w1.fresh hbk.zp, w1.fresh hbk.zq⟩⟩
/-- own, x = f(..), e: the book in slot i -/
theorem sjb_parCall {n cc : Nat} {pre : Rh → List D → Prop} {post : Bk → Prop} {PA : List D → Prop} {EE : XK} {sp : Sp} (hij : i ≠ j) (hi0 : δ[i]? = some none) (hv : vals δ = true) (h : EA ρ K tA δ k PA) (hsp : ∀ vs H Q, spBkJ K n pre cc post vs H Q EE → sp vs H Q EE) (h1 : ∀ ds, PA ds → ds.length = n ∧ pre ρ ds)
    (hb : EJ ρ K tb δ k1 P) (hn : ∀ b d, post b → P d → SB ρ K E i b u (δ.set j (some (.val d))) k2 PO) :
    SJB ρ K E (tSeq (tPar i j (tCons (tCall sp [] EE tA) (tCons tb tNil))) u) δ (k + cc + k1 + k2) PO := .mk fun G0 H0 G H σ m D w hm q =>
  h.run G0 H0 G H σ m _ w (by omega) fun ds vs G1 H1 m1 px w1 g1 l1 ax => by
    show sp (vs ++ []) H1 _ EE
    rw [List.append_nil]
    refine hsp _ _ _ ⟨ρ, G1, ds, m1, ax, (h1 ds px).1, w1.gd.sub, w1.pot, fun a e => w1.gnone e, by omega, (h1 ds px).2, fun b p r lv xs G2 H2 m2 pb g2 p2 l2 hbk => ?_⟩
    have w2 := w1.step g2 p2
    refine hb.run G0 H0 G2 H2 σ m2 _ w2 (by omega) fun d v G3 H3 m3 pd w3 g3 l3 av => ?_
    have hbk2 : BkP K H0 G2 H2 b p r lv xs := ⟨hbk.hp, hbk.hq, hbk.ss, hbk.ls, hbk.gp, hbk.gq, w1.fresh hbk.zp, w1.fresh hbk.zq⟩
    have hbk3 := hbk2.step g3 (w2.rhoZ hbk2.zp) (w2.rhoZ hbk2.zq)
    refine ⟨_, _, rfl, ?_⟩
    have hil : i < σ.length := by
      rw [w.len]
      exact (List.getElem?_eq_some_iff.mp hi0).1
    have w4 : Wf ρ K G0 H0 G3 H3 (σ.set i (some (.ref p))) δ m3 := by
      refine ⟨by rw [List.length_set]; exact w3.len, w3.gd, w3.pot, w3.pot0, fun l s e => ?_, fun l l' d' e' nn h1 h2 => ?_⟩
      · have hne : i ≠ l := fun z => by rw [← z, hi0] at e; cases e
        obtain ⟨x, hx1, hx2⟩ := w3.sl l s e
        exact ⟨x, by rw [List.getElem?_set_ne hne]; exact hx1, hx2⟩
      · obtain ⟨z, hz⟩ := vals_get hv h1
        cases hz
    refine (hn b d pb pd).run G0 H0 G3 H3 _ m3 D (w4.set av) ⟨p, r, lv, xs, ?_, hbk3⟩ (by omega) fun o po => (q o po).le (by omega)
    rw [List.getElem?_set_ne (fun z => hij z.symm), List.getElem?_set_self hil]
end
end DN

namespace DN
open PySem PySem.Spec PyProof.Rows L2
variable [Tb]
section
variable {P : Program} {w : World} {K : PySem.W.Frag} {mg : Str → Option Value} {base : Heap}
def postFilledB (b : Bk) (most : Nat) (b' : Bk) : Prop := ∃ ss : List Stn, b' = { b with stations := ss } ∧ ss.map (fun s => (s.1, s.2.1)) = b.stations.map (fun s => (s.1, s.2.1)) ∧ ∀ s ∈ ss, 0 ≤ s.2.2 ∧ s.2.2 ≤ 600 * most
abbrev spFilledB0 (K : PySem.W.Frag) (b : Bk) (most : Nat) : Sp := spBkJ K 3 (fun ρ ds => ∃ a, ds = [.opq (.ref a), bkD b, .int (most : Int)] ∧ ρ = .some a ∧ GoodBk b ∧ most ≤ 1000) 10000 (postFilledB b most)
def spFilledB (K : PySem.W.Frag) : Sp := fun vs H Q E => ∃ b most, spFilledB0 K b most vs H Q E
theorem ok_filledB {f : Addr} {fd : FuncData} (F : Fun K "_law_filled" "_law_filled" s__law_filled f fd) (T : Txt K mg) (T3 : mg "dict" = none) (c__law_take : C8.Cal P w K mg base 1 "_law_take" (spTake K) []) (c__law_of : C8.Cal P w K mg base 2 "_law_of" (spOf K) []) (c__law_way_home : C8.Cal P w K mg base 1 "_law_way_home" (spWay K) []) : FnOk P w K mg base CX0 3 f fd ["pot", "own", "most"] (spFilledB K) := by
  refine F.ok sc__law_filled (fun vs H Q E h => by obtain ⟨b, most, h⟩ := h; exact spBkJ_len h) (fun cdv A outer s H vs Q E hr h => ?_)
  obtain ⟨b, most, h⟩ := h
  refine ⟨_, (pss_cons (ps_asg (pe_tup (pa_cons (pe_lc (own := [("link", 14)]) rfl sc__law_filled.nd (pi_list (pe_dget (hu_of hr) (pv 1) pe_str (fun _ _ => rfl))) (blkOk_by (N := ["pot", "own", "most", "left", "puts", "lap", "found", "name", "way", "least", "many", "at", "level", "put", "link"]) (sc := defScope s__law_filled) (by decide +kernel)) (fun _ _ _ _ _ => (pg_name (i := 14) sc__law_filled.nd rfl (by first | exact Or.inl rfl | exact Or.inr rfl))) (fun _ _ _ _ _ => pts_nil) (fun _ _ _ _ _ => (pe_op op_mulW (pe_ix (r := rIxT K) ix_tup (pv 14) pe_int (fun _ _ => rfl)) (pe_ix (r := rIxT K) ix_tup (pv 14) pe_int (fun _ _ => rfl))))) (pa_cons (pe_callTy (call_dictP (by rfl)) (by rfl) T3 (by decide +kernel) (pa_cons (pe_lc (own := [("name", 7), ("level", 12), ("put", 13)]) (g := (gTup K 3 (gCons (gName 7) (gCons (gName 12) (gCons (gName 13) gNil))))) rfl sc__law_filled.nd (pi_list (pe_dget (hu_of hr) (pv 1) pe_str (fun _ _ => rfl))) (blkOk_by (N := ["pot", "own", "most", "left", "puts", "lap", "found", "name", "way", "least", "many", "at", "level", "put", "link"]) (sc := defScope s__law_filled) (by decide +kernel)) (fun _ _ _ _ _ => (pg_tup rfl (pgs_cons (pg_name (i := 7) sc__law_filled.nd rfl (by first | exact Or.inl rfl | exact Or.inr rfl)) (pgs_cons (pg_name (i := 12) sc__law_filled.nd rfl (by first | exact Or.inl rfl | exact Or.inr rfl)) (pgs_cons (pg_name (i := 13) sc__law_filled.nd rfl (by first | exact Or.inl rfl | exact Or.inr rfl)) pgs_nil))))) (fun _ _ _ _ _ => pts_nil) (fun _ _ _ _ _ => (pe_tup (pa_cons (pv 7) (pa_cons pe_int pa_nil))))) pa_nil)) pa_nil))) (pg_tup rfl (pgs_cons (pg_name (i := 3) sc__law_filled.nd rfl (by first | exact Or.inl rfl | exact Or.inr rfl)) (pgs_cons (pg_name (i := 4) sc__law_filled.nd rfl (by first | exact Or.inl rfl | exact Or.inr rfl)) pgs_nil))))
 (pss_cons (ps_for PassesOwn.never rfl (pi_range1 (by rfl) T.b_range (pa_cons (C8.pe_c c__law_take hr (by omega) (by rfl) (pa_cons (pv 0) (pa_cons (pe_op op_add (pv 2) pe_int) pa_nil))) pa_nil)) (pg_name (i := 5) sc__law_filled.nd rfl (by first | exact Or.inl rfl | exact Or.inr rfl))
  (pss_cons (ps_set (i := 7) sc__law_filled.nd rfl (by first | exact Or.inl rfl | exact Or.inr rfl) (pe_ix ix_tup (C8.pe_c c__law_of hr (by omega) (by rfl) (pa_cons (pv 0) (pa_cons (pe_dget (hu_of hr) (pv 1) pe_str (fun _ _ => rfl)) pa_nil))) pe_int (fun _ _ => rfl)))
 (pss_cons (ps_set (i := 8) sc__law_filled.nd rfl (by first | exact Or.inl rfl | exact Or.inr rfl) (C8.pe_c c__law_way_home hr (by omega) (by rfl) (pa_cons (pv 1) (pa_cons (pv 3) (pa_cons (pv 7) pa_nil)))))
 (pss_one (ps_if (pt_cmpR (op_neD hr.units) (pv 8) (pe_lst pa_nil) (by first | exact nomark _ | rfl)) (pss_cons (ps_set (i := 9) sc__law_filled.nd rfl (by first | exact Or.inl rfl | exact Or.inr rfl) (pe_callB (cr_min (by rfl)) (by rfl) T.b_min (by decide +kernel) (pa_cons (pe_lc (own := [("at", 11)]) rfl sc__law_filled.nd (pi_list (pv 8)) (blkOk_by (N := ["pot", "own", "most", "left", "puts", "lap", "found", "name", "way", "least", "many", "at", "level", "put", "link"]) (sc := defScope s__law_filled) (by decide +kernel)) (fun _ _ _ _ _ => (pg_name (i := 11) sc__law_filled.nd rfl (by first | exact Or.inl rfl | exact Or.inr rfl))) (fun _ _ _ _ _ => pts_nil) (fun _ _ _ _ _ => (pe_ix (r := rIxL K) ix_list (pv 3) (pv 11) (fun _ _ => rfl)))) pa_nil)))
 (pss_cons (ps_set (i := 10) sc__law_filled.nd rfl (by first | exact Or.inl rfl | exact Or.inr rfl) (pe_ifExp (pt_cmpR op_eq (C8.pe_c c__law_take hr (by omega) (by rfl) (pa_cons (pv 0) (pa_cons pe_int pa_nil))) pe_int (by first | exact nomark _ | rfl)) (pv 9) (pe_op op_add pe_int (C8.pe_c c__law_take hr (by omega) (by rfl) (pa_cons (pv 0) (pa_cons (pv 9) pa_nil))))))
 (pss_cons (ps_for PassesOwn.never rfl (pi_list (pv 8)) (pg_name (i := 11) sc__law_filled.nd rfl (by first | exact Or.inl rfl | exact Or.inr rfl))
  (pss_one (ps_asg (pe_op op_sub (pe_ix ix_list (pv 3) (pv 11) (fun _ _ => rfl)) (pv 10)) (pg_sub (pv 3) (pv 11) set_list))))
 (pss_one (ps_dput (hu_of hr) (pv 4) (pv 7) (pe_op op_add (pe_dget (hu_of hr) (pv 4) (pv 7) (fun _ _ => rfl)) (pv 10)) rfl))))) pss_nil)))))
 (pss_cons (ps_set (i := 6) sc__law_filled.nd rfl (by first | exact Or.inl rfl | exact Or.inr rfl) (pe_callTy (call_dictP (by rfl)) (by rfl) T3 (by decide +kernel) (pa_cons (pe_strip (LiI.pe_listItems (by rfl) (pv 1) (by rfl) T.b_list rfl)) pa_nil)))
 (pss_cons (ps_dput (hu_of hr) (pv 6) pe_str (pe_lc (own := [("name", 7), ("level", 12), ("put", 13)]) (g := (gTup K 3 (gCons (gName 7) (gCons (gName 12) (gCons (gName 13) gNil))))) rfl sc__law_filled.nd (pi_list (pe_dget (hu_of hr) (pv 1) pe_str (fun _ _ => rfl))) (blkOk_by (N := ["pot", "own", "most", "left", "puts", "lap", "found", "name", "way", "least", "many", "at", "level", "put", "link"]) (sc := defScope s__law_filled) (by decide +kernel)) (fun _ _ _ _ _ => (pg_tup rfl (pgs_cons (pg_name (i := 7) sc__law_filled.nd rfl (by first | exact Or.inl rfl | exact Or.inr rfl)) (pgs_cons (pg_name (i := 12) sc__law_filled.nd rfl (by first | exact Or.inl rfl | exact Or.inr rfl)) (pgs_cons (pg_name (i := 13) sc__law_filled.nd rfl (by first | exact Or.inl rfl | exact Or.inr rfl)) pgs_nil))))) (fun _ _ _ _ _ => pts_nil) (fun _ _ _ _ _ => (pe_tup (pa_cons (pv 7) (pa_cons (pv 12) (pa_cons (pe_callTy call_int1 (by rfl) T.b_int (by decide +kernel) (pa_cons (pe_dget (hu_of hr) (pv 4) (pv 7) (fun _ _ => rfl)) pa_nil)) pa_nil)))))) rfl)
 (pss_one (ps_ret (pv 6))))))), bodyB_of (n := 3) (fun ρ ds hl hp => ?_) h⟩
  obtain ⟨a, rfl, rfl, gb, hmost⟩ := hp
  try dsimp only [cxOf, Cx.nox, Cx.wish]
  have hroom : ∀ l ∈ b.links, 1 ≤ l.2.2.1 ∧ l.2.2.1 ≤ 6 := gb.links.room
  have htimes : ∀ l ∈ b.links, 0 ≤ l.2.2.2 ∧ l.2.2.2 ≤ 100 := fun l hl => ⟨(gb.links.times l hl).1, Int.le_trans (gb.links.times l hl).2 gb.w2⟩
  let ns := b.stations.map (·.1)
  let lf0 : List Int := b.links.map fun l => l.2.2.1 * l.2.2.2
  let dl : List Int → (Str → Int) → Dl := fun lf pv => [some (.val (.opq (.ref a))), some (.val (bkD b)), some (.val (.int (most : Int))), some (.own (.lst (lf.map D.int))), some (.own (.dct (putsD ns pv))), none, none, none, none, none, none, none, none, none, none]
  apply ex_kB
  · apply sjb_split (R := fun δ' => ∃ lf pv, δ' = dl lf pv ∧ ∀ n, 0 ≤ pv n ∧ pv n ≤ 600 * (most : Int))
    · apply sj_tupOO (i := 3) (j := 4) (P1 := (· = .lst (lf0.map D.int))) (P2 := (· = .dct (putsD ns fun _ => 0))) (by decide) rfl
      · refine (en_lcE (L := [14]) (ds := b.links.map linkD) (p := fun _ => true) (f := fun d => match d with | .tup [_, _, .int r, .int t] => .int (r * t) | _ => .non) (ij_list (ed_dget (x := .inr "links") (ed_var rfl) ed_str (bk_links b))) (fun i h => h) (by rw [List.length_map]; have := gb.many; omega) (fun d _ => gj_name) (fun d _ => eb_yes) (fun d hd _ => ?_)).mono (Nat.le_refl _) fun r e => ?_
        · obtain ⟨l, hl, rfl⟩ := List.mem_map.mp hd
          have h1 := hroom l hl
          have h2 := htimes l hl
          exact ed_op (ed_op (ed_var rfl) ed_int (rj_ixT rfl)) (ed_op (ed_var rfl) ed_int (rj_ixT rfl)) (rj_I (wide_mul (a := 20) (b := 20) (by omega) (by omega) (by decide) (by decide) (by decide)))
        · rw [e, filt_true, List.map_map, List.map_map]
          rfl
      · refine (en_dictP (qs := putsD ns fun _ => 0) ?_).mono (Nat.le_refl _) fun r e => ?_
        · apply EN.ej
          refine (en_lcE (L := [7, 12, 13]) (ds := b.stations.map statD) (p := fun _ => true) (f := fun d => match d with | .tup [x, _, _] => .tup [x, .int 0] | _ => .non)
            (δt := fun d => match d with | .tup [x, y, z] => (((wipeD (initD 15 [.opq (.ref a), bkD b, .int (most : Int)]) [7, 12, 13]).set 7 (some (.val x))).set 12 (some (.val y))).set 13 (some (.val z)) | _ => [])
            (ij_list (ed_dget (x := .inr "stations") (ed_var rfl) ed_str (bk_stations b))) (fun i h => h) (by rw [List.length_map]; have := gb.most; omega) (fun d hd => ?_) (fun d _ => eb_yes) (fun d hd _ => ?_)).mono (Nat.le_refl _) fun r e => ?_
          · obtain ⟨s, hs, rfl⟩ := List.mem_map.mp hd
            exact gj_tup (gsj_cons gj_name (gsj_cons gj_name (gsj_cons gj_name gsj_nil))) rfl
          · obtain ⟨s, hs, rfl⟩ := List.mem_map.mp hd
            exact ed_tup (eda_cons (ed_var rfl) (eda_cons ed_int eda_nil)) (by show 2 ≤ 1000000; decide)
          · rw [e, filt_true]
            simp only [putsD, ns, List.map_map]
            rfl
        · rw [e, merge_app]
          · rfl
          · show ((putsD ns fun _ => 0).map (·.1)).Nodup
            unfold putsD
            rw [List.map_map]
            exact nodup_map gb.names fun x y e => by
              have : (Sum.inr x : Key) = Sum.inr y := e
              injection this
      rintro _ _ rfl rfl
      apply sj_for (Inv := fun _ t δ' => ∃ lf pv, δ' = dl lf pv ∧ lf.length = b.links.length ∧ (∀ z ∈ lf, z ≤ 600) ∧ ∀ n, 0 ≤ pv n ∧ pv n ≤ 600 * (t : Int)) (Br := fun _ => False) (N := 1000)
      · apply ij_range1P (PI := fun m => 0 ≤ m ∧ m ≤ (most : Int))
        · exact (ej_take rfl (ed_var rfl) (ed_op (ed_var rfl) ed_int rj_I0) (by omega) (by omega)).mono (Nat.le_refl _) fun d hd => by
            obtain ⟨r, rfl, r0, r1⟩ := hd
            exact ⟨r, rfl, r0, by omega⟩
        · intro m h
          exact ⟨by omega, by omega⟩
      · rintro _ ⟨m, h, rfl⟩
        rw [List.length_map, List.length_range]; omega
      · rintro _ ⟨m, h, rfl⟩
        refine ⟨lf0, fun _ => 0, rfl, by simp [lf0], fun z hz => ?_, fun n => (by show (0 : Int) ≤ 0 ∧ (0 : Int) ≤ 600 * ((0 : Nat) : Int); constructor <;> omega)⟩
        obtain ⟨l, hl, rfl⟩ := List.mem_map.mp hz
        have h1 := hroom l hl
        have h2 := htimes l hl
        have : l.2.2.1 * l.2.2.2 ≤ 6 * 100 := Int.mul_le_mul (by omega) (by omega) (by omega) (by omega)
        omega
      · rintro _ t d _ ⟨m, hm, rfl⟩ hd ⟨lf, pv, rfl, hlf, hle, hpv⟩
        have ht : t < 1000 := by
          have := (List.getElem?_eq_some_iff.mp hd).1
          rw [List.length_map, List.length_range] at this; omega
        refine ⟨_, gj_name, ?_⟩
        apply sj_set (P := fun d => ∃ n ∈ ns, d = .str n)
        · apply ej_op (P1 := fun d => ∃ s ∈ b.stations, d = statD s) (P2 := (· = .int 0))
          · exact (ej_ofL (l := b.stations.map statD) rfl (ed_var rfl) (ed_dget (x := .inr "stations") (ed_var rfl) ed_str (bk_stations b)) (by rw [List.length_map]; exact gb.one) (by rw [List.length_map]; have := gb.most; omega)).mono (Nat.le_refl _) fun d hd => by
              obtain ⟨s, hs, rfl⟩ := List.mem_map.mp hd
              exact ⟨s, hs, rfl⟩
          · intro _ _
            exact ed_int
          · rintro _ _ ⟨s, hs, rfl⟩ rfl
            exact ⟨.str s.1, ⟨s.1, List.mem_map.mpr ⟨s, hs, rfl⟩, rfl⟩, rj_ixT rfl⟩
        rintro _ ⟨nm, hnm, rfl⟩
        have hnl : letters nm := (gb.ok _ (List.mem_cons_of_mem _ hnm)).lt
        apply sj_set (ej_way (b := b) (lf := lf) rfl rfl rfl gb hnl hlf)
        rintro _ ⟨way, rfl, hwl, hway⟩
        apply sj_last
        apply sj_ifs (PT := fun x => x = !(way.map D.int).isEmpty)
        · exact eb_test (ed_op (ed_var rfl) (ed_lst eda_nil (by decide)) (rj_neNil (seqL_map (fun _ => rfl) way) (shaped_ints way)))
        · intro e
          have hw0 : 0 < way.length := by
            cases way with
            | nil => cases e
            | cons x r => simp
          apply sj_assoc
          apply sj_set (P := fun d => ∃ m, d = .int m ∧ 0 < m ∧ m ≤ 600)
          · refine (ej_min (ns := way.map fun x => (lf[x.toNat]?).getD 0) ?_ (by rw [List.length_map]; exact hw0)).mono (Nat.le_refl _) fun d hd => ?_
            · apply EN.ej
              apply en_peek 3 rfl
              · refine (en_lcE (L := [11]) (ds := way.map D.int) (p := fun _ => true) (f := fun d => match d with | .int x => .int ((lf[x.toNat]?).getD 0) | _ => .non) (ij_list (ed_var rfl)) (fun i h => h) (by rw [List.length_map]; omega) (fun d _ => gj_name) (fun d _ => eb_yes) (fun d hd _ => ?_)).mono (Nat.le_refl _) fun r e => ?_
                · obtain ⟨x, hx, rfl⟩ := List.mem_map.mp hd
                  obtain ⟨n, z, rfl, hz, z0⟩ := hway x hx
                  show ED _ _ _ _ (.int ((lf[(n : Int).toNat]?).getD 0))
                  rw [Int.toNat_natCast, hz]
                  exact ed_op (ed_var rfl) (ed_var rfl) (rj_ixL (atI_nat (by rw [List.getElem?_map, hz]; rfl)))
                · rw [e, filt_true, List.map_map, List.map_map]
                  rfl
              · rintro _ rfl
                refine ⟨_, rfl, ?_⟩
                rw [List.all_eq_true]
                intro x hx
                obtain ⟨_, _, rfl⟩ := List.mem_map.mp hx
                rfl
            · obtain ⟨m', rfl, hmem, _⟩ := hd
              obtain ⟨x, hx, rfl⟩ := List.mem_map.mp hmem
              obtain ⟨n, z, rfl, hz, z0⟩ := hway x hx
              refine ⟨_, rfl, ?_, ?_⟩
              · rw [Int.toNat_natCast, hz]; exact z0
              · rw [Int.toNat_natCast, hz]; exact hle z (List.mem_of_getElem? hz)
          rintro _ ⟨least, rfl, l0, l1⟩
          apply sj_assoc
          apply sj_set (P := fun d => ∃ m, d = .int m ∧ 1 ≤ m ∧ m ≤ 600)
          · apply ej_if (PT := fun _ => True)
            · apply et_test
              exact ej_op (P2 := (· = .int 0)) (ej_take rfl (ed_var rfl) ed_int (by decide) (by decide)) (fun _ _ => ed_int) fun x y hx hy => by
                obtain ⟨r, rfl, _⟩ := hx
                subst hy
                exact ⟨_, ⟨_, rfl, trivial⟩, rj_eqI⟩
            · intro _
              exact ej_in (ed_var rfl) (by omega) (by omega)
            · intro _
              exact ej_1take rfl (ed_var rfl) (ed_var rfl) (by omega) (by omega) (by decide) (by omega)
          rintro _ ⟨many, rfl, m0, m1⟩
          let dm : List Int → Dl := fun lf => ((((dl lf pv).set 5 (some (.val d))).set 7 (some (.val (.str nm)))).set 8 (some (.val (.lst (way.map D.int))))).set 9 (some (.val (.int least))) |>.set 10 (some (.val (.int many)))
          apply sj_assoc
          apply sj_for (Inv := fun _ t δ' => ∃ lf', δ' = dm lf' ∧ lf'.length = b.links.length ∧ (∀ z ∈ lf', z ≤ 600)) (Br := fun _ => False) (N := 2000) (kb := 0)
          · exact ij_list (ed_var rfl)
          · rintro _ rfl
            rw [List.length_map]; exact hwl
          · rintro _ rfl
            exact ⟨lf, rfl, hlf, hle⟩
          · rintro _ t' x _ rfl hx ⟨lf', rfl, hlf', hle'⟩
            obtain ⟨x, hxm, rfl⟩ := List.mem_map.mp (List.mem_of_getElem? hx)
            obtain ⟨n, z, rfl, hz, z0⟩ := hway x hxm
            have hn : n < lf'.length := by
              rw [hlf', ← hlf]
              exact (List.getElem?_eq_some_iff.mp hz).1
            have hz' : lf'[n]? = some lf'[n] := List.getElem?_eq_getElem hn
            refine ⟨_, gj_name, ?_⟩
            apply sj_last
            apply sj_le
            · apply sj_setItem (i := 3) (n := n) (P := (· = .int (lf'[n] - many))) (k1 := 0) (k2 := 0) rfl
              · apply ej_peek 3 rfl
                · exact ed_op (ed_op (ed_var rfl) (ed_var rfl) (rj_ixL (d := .int lf'[n]) (atI_nat (by rw [List.getElem?_map, hz']; rfl)))) (ed_var rfl) rj_I0
                · rintro _ rfl
                  rfl
              · exact ed_var rfl
              · rw [List.length_map]; exact hn
              rintro _ rfl
              refine sj_nextW (δ' := dm (lf'.set n (lf'[n] - many))) ?_ ⟨_, rfl, by rw [List.length_set]; exact hlf', fun z hz => ?_⟩
              · show Fewer [_, _, _, some (.own (.lst ((lf'.set n (lf'[n] - many)).map D.int))), _, _, _, _, _, _, _, _, _, _, _] _
                rw [List.map_set]
                exact .keep (.keep (.keep (.keep (.keep (.keep (.keep (.keep (.keep (.keep (.keep (.drop (.keep (.keep (.keep .nil))))))))))))))
              · rcases List.mem_or_eq_of_mem_set hz with h | rfl
                · exact hle' z h
                · have := hle' _ (List.getElem_mem hn)
                  omega
            · decide
          · rintro _ _ rfl (⟨lf', rfl, hlf', hle'⟩ | z)
            rotate_left
            · exact z.elim
            apply sj_dput (i := 4) (x := .inr nm) (P := (· = .int (pv nm + many))) rfl
            · exact ed_op (ed_dgetO (x := .inr nm) rfl (ed_var rfl) (get_puts hnm)) (ed_var rfl) rj_I0
            · exact ed_var rfl
            · simp [putsD, ns]; have := gb.most; omega
            rintro _ rfl
            rw [put_puts hnm]
            refine sj_nextW (δ' := dl lf' (fun m => if m = nm then pv nm + many else pv m)) (.keep (.keep (.keep (.keep (.keep (.drop (.keep (.drop (.drop (.drop (.drop (.keep (.keep (.keep (.keep .nil))))))))))))))) ⟨_, _, rfl, hlf', hle', fun n => ?_⟩
            have h1 := hpv n
            have h2 := hpv nm
            show 0 ≤ (if n = nm then pv nm + many else pv n) ∧ (if n = nm then pv nm + many else pv n) ≤ 600 * ((t + 1 : Nat) : Int)
            split <;> constructor <;> omega
        · intro _
          apply sj_nexts
          refine sj_nextW (δ' := dl lf pv) (.keep (.keep (.keep (.keep (.keep (.drop (.keep (.drop (.drop (.keep (.keep (.keep (.keep (.keep (.keep .nil))))))))))))))) ⟨_, _, rfl, hlf, hle, fun n => ?_⟩
          have := hpv n
          constructor <;> omega
      · rintro _ _ ⟨m, hm, rfl⟩ (⟨lf, pv, rfl, hlf, hle, hpv⟩ | z)
        rotate_left
        · exact z.elim
        rw [List.length_map, List.length_range] at hpv
        refine sj_nextP ⟨_, rfl, lf, pv, rfl, fun n => ?_⟩
        have h1 := hpv n
        have h2 : (m.toNat : Int) ≤ most := by omega
        exact ⟨h1.1, by omega⟩
    · rintro _ ⟨lf, pv, rfl, hpv⟩
      let ss : List Stn := b.stations.map fun s => (s.1, s.2.1, pv s.1)
      apply sjb_new (i := 6) (P := (· = bkD b))
      · exact (en_dictP (qs := bkE b) (ed_items rfl)).mono (Nat.le_refl _) fun r e => by rw [e, merge_bk]; rfl
      rintro _ rfl
      apply sjb_putBk (i := 6) (b := b) (PS := (· = ss)) (δ2 := [some (.val (.opq (.ref a))), some (.val (bkD b)), some (.val (.int (most : Int))), none, none, none, none, none, none, none, none, none, none, none, none]) rfl (.keep (.keep (.keep (.drop (.drop (.keep (.keep (.keep (.keep (.keep (.keep (.keep (.keep (.keep (.keep .nil))))))))))))))) rfl
      · refine (en_peekT (k := 0) (P := (· = .lst (ss.map statD))) 4 rfl ?_ ?_).mono (Nat.le_refl _) fun r e => ⟨ss, e, rfl⟩
        · refine (en_lcE (L := [7, 12, 13]) (ds := b.stations.map statD) (p := fun _ => true) (f := fun d => match d with | .tup [.str x, y, _] => .tup [.str x, y, .int (pv x)] | _ => .non)
            (δt := fun d => match d with | .tup [x, y, z] => (((wipeD ((((dl lf pv).set 6 (some (.own (bkD b)))).set 4 (some (.val (.dct (putsD ns pv)))))) [7, 12, 13]).set 7 (some (.val x))).set 12 (some (.val y))).set 13 (some (.val z)) | _ => [])
            (ij_list (ed_dget (x := .inr "stations") (ed_var rfl) ed_str (bk_stations b))) (fun i h => h) (by rw [List.length_map]; have := gb.most; omega) (fun d hd => ?_) (fun d _ => eb_yes) (fun d hd _ => ?_)).mono (Nat.le_refl _) fun r e => ?_
          · obtain ⟨s, hs, rfl⟩ := List.mem_map.mp hd
            exact gj_tup (gsj_cons gj_name (gsj_cons gj_name (gsj_cons gj_name gsj_nil))) rfl
          · obtain ⟨s, hs, rfl⟩ := List.mem_map.mp hd
            exact ed_tup (eda_cons (ed_var rfl) (eda_cons (ed_var rfl) (eda_cons (ed_cb (eda_cons (ed_dget (x := .inr s.1) (ed_var rfl) (ed_var rfl) (get_puts (List.mem_map.mpr ⟨s, hs, rfl⟩))) eda_nil) cj_int) eda_nil))) (by show 3 ≤ 1000000; decide)
          · rw [e, filt_true, List.map_map, List.map_map]
            rfl
        · rintro _ rfl
          refine ⟨_, rfl, ?_⟩
          generalize ss = l
          induction l with
          | nil => rfl
          | cons x r ih => simpa [tupOL, tupO, statD] using ih
      rintro _ rfl
      apply sb_ret
      refine ⟨_, rfl, ss, rfl, ?_, fun s hs => ?_⟩
      · rw [List.map_map]
        rfl
      · obtain ⟨s', _, rfl⟩ := List.mem_map.mp hs
        exact hpv s'.1
  · decide
end
end DN

namespace DN
open PySem PySem.Spec PyProof.Rows L2
variable [Tb]
section
variable {P : Program} {w : World} {K : PySem.W.Frag} {mg : Str → Option Value} {base : Heap}
abbrev spFlowB0 (K : PySem.W.Frag) (S L : Nat) (W : Int) : Sp := spBkJ K 4 (fun ρ ds => ∃ a, ds = [.opq (.ref a), .int (S : Int), .int (L : Int), .int W] ∧ ρ = .some a ∧ 1 ≤ S ∧ S ≤ 25 ∧ L ≤ 100 ∧ 1 ≤ W ∧ W ≤ 100) 30000 (FlowBk S L W)
def spFlowB (K : PySem.W.Frag) : Sp := fun vs H Q E => ∃ S L W, spFlowB0 K S L W vs H Q E
theorem ok_flowB {f : Addr} {fd : FuncData} (F : Fun K "_law_flow_book" "_law_flow_book" s__law_flow_book f fd) (T : Txt K mg) (c__law_filled : C8.Cal P w K mg base 3 "_law_filled" (spFilledB K) []) (c__law_book : C8.Cal P w K mg base 4 "_law_book" (spBookE K) []) : FnOk P w K mg base CX0 5 f fd ["pot", "stations", "links", "window"] (spFlowB K) := by
  refine F.ok sc__law_flow_book (fun vs H Q E h => by obtain ⟨_, _, _, h⟩ := h; exact spBkJ_len h) (fun cdv A outer s H vs Q E hr h => ?_)
  obtain ⟨S, L, W, h⟩ := h
  refine ⟨_, (pss_one (ps_ret (C8.pe_c c__law_filled hr (by omega) (by rfl) (pa_cons (pv 0) (pa_cons (C8.pe_c c__law_book hr (by omega) (by rfl) (pa_cons (pv 0) (pa_cons (pv 1) (pa_cons (pv 2) (pa_cons (pv 3) pa_nil))))) (pa_cons (pe_op op_mulW pe_int (pv 1)) pa_nil)))))), bodyB_of (n := 4) (fun ρ ds hl hp => ?_) h⟩
  obtain ⟨a, rfl, rfl, hS1, hS2, hL, hW1, hW2⟩ := hp
  try dsimp only [cxOf, Cx.nox, Cx.wish]
  apply ex_kB
  · apply sjb_retCall (PA := fun ds => ∃ b, ds = [.opq (.ref a), bkD b, .int ((2 * S : Nat) : Int)] ∧ DrawnBk S L W b) (n := 3) (cc := 10000)
    · apply ea_cons (P1 := (· = .opq (.ref a))) (PR := fun ds => ∃ b, ds = [bkD b, .int ((2 * S : Nat) : Int)] ∧ DrawnBk S L W b) (ed_var rfl)
      · intro _ _
        apply ea_cons (P1 := fun d => ∃ b, d = bkD b ∧ DrawnBk S L W b) (PR := (· = [.int ((2 * S : Nat) : Int)]))
        · exact ej_callS (n := 4) (PA := (· = [.opq (.ref a), .int (S : Int), .int (L : Int), .int W])) (sp := spBookE K) (EE := C8.E0) (eda_cons (ed_var rfl) (eda_cons (ed_var rfl) (eda_cons (ed_var rfl) (eda_cons (ed_var rfl) eda_nil)))) (fun vs H Q h => ⟨S, L, W, h⟩) (fun ds e => ⟨by subst e; rfl, a, e, rfl, hS1, hS2, hL, hW1, hW2⟩) (fun ds d e h => h)
        · intro _ _
          have e2 : ((2 * S : Nat) : Int) = 2 * (S : Int) := by omega
          rw [e2]
          exact eda_cons (ed_op ed_int (ed_var rfl) (rj_I (wide_mul (a := 10) (b := 10) (by decide) (by omega) (by decide) (by decide) (by decide)))) eda_nil
        · rintro _ _ ⟨b, rfl, h⟩ rfl
          exact ⟨b, rfl, h⟩
      · rintro _ _ rfl ⟨b, rfl, h⟩
        exact ⟨b, rfl, h⟩
    · rintro _ ⟨b, rfl, db⟩
      refine ⟨_, _, fun vs H Q h => ⟨b, 2 * S, h⟩, rfl, ⟨a, rfl, rfl, db.good, by omega⟩, fun b' hb' => ⟨b', rfl, ?_⟩⟩
      obtain ⟨ss, rfl, e1, e2⟩ := hb'
      have el : ss.length = b.stations.length := by
        have := congrArg List.length e1
        simpa using this
      refine ⟨db.good.anew (names_of e1), db.w, by show ss.length ≤ S; rw [el]; exact db.s, db.l, db.m0, db.late, fun s hs => ?_, fun s hs => ?_⟩
      · have : (s.1, s.2.1) ∈ ss.map (fun s => (s.1, s.2.1)) := List.mem_map.mpr ⟨s, hs, rfl⟩
        rw [e1] at this
        obtain ⟨s', hs', e⟩ := List.mem_map.mp this
        have : s'.2.1 = s.2.1 := congrArg (fun p : Str × Int => p.2) e
        rw [← this]
        exact db.lev s' hs'
      · have := e2 s hs
        have h3 : (600 : Int) * ((2 * S : Nat) : Int) ≤ 30000 := by omega
        exact ⟨this.1, by omega⟩
  · decide
/-- any drawn book -/
structure AnyBk (S L : Nat) (W : Int) (b : Bk) : Prop where
  good : GoodBk b
  w : b.window ≤ W
  s : b.stations.length ≤ S
  l : b.links.length ≤ L
  m0 : 0 ≤ b.margin ∧ b.margin ≤ 11
  late : 0 ≤ b.late ∧ b.late ≤ 3
  lev : ∀ s ∈ b.stations, 0 ≤ s.2.1 ∧ s.2.1 ≤ 8
  put : ∀ s ∈ b.stations, 0 ≤ s.2.2 ∧ s.2.2 ≤ 1000000
theorem isum_le {f : Lk → Int} {n : Int} (hn : 0 ≤ n) : ∀ {l : List Lk}, (∀ x ∈ l, 0 ≤ f x ∧ f x ≤ n) → 0 ≤ (l.map f).sum ∧ (l.map f).sum ≤ n * l.length
  | [], _ => by simp
  | x :: r, h => by
    have h1 := h x (List.mem_cons_self ..)
    have h2 := isum_le hn (l := r) fun y hy => h y (List.mem_cons_of_mem _ hy)
    rw [List.map_cons, List.sum_cons, List.length_cons]
    have e : n * ((r.length + 1 : Nat) : Int) = n * r.length + n := by rw [Int.natCast_add, Int.mul_add]; simp
    rw [e]
    omega
theorem AnyBk.set {S L : Nat} {W : Int} {b : Bk} (h : AnyBk S L W b) {n : Nat} {nm : Str} {lv x : Int} {s : Stn} (hn : b.stations[n]? = some (nm, lv, x)) (h1 : s.1 = nm) (h2 : s.2.1 = lv) (h3 : 0 ≤ s.2.2 ∧ s.2.2 ≤ 1000000) : AnyBk S L W { b with stations := b.stations.set n s } := by
  obtain ⟨hl, hx⟩ := List.getElem?_eq_some_iff.mp hn
  have e : (b.stations.set n s).map (·.1) = b.stations.map (·.1) := by
    rw [List.map_set]
    refine List.ext_getElem? fun j => ?_
    by_cases z : n = j
    · subst z
      rw [List.getElem?_set_self (by rw [List.length_map]; exact hl), List.getElem?_map, hn, h1]
      rfl
    · rw [List.getElem?_set_ne z]
  refine ⟨h.good.anew e, h.w, by show (b.stations.set n s).length ≤ S; rw [List.length_set]; exact h.s, h.l, h.m0, h.late, fun y hy => ?_, fun y hy => ?_⟩
  · rcases List.mem_or_eq_of_mem_set hy with hy | rfl
    · exact h.lev y hy
    · have := h.lev _ (List.mem_of_getElem? hn)
      rw [h2]; exact this
  · rcases List.mem_or_eq_of_mem_set hy with hy | rfl
    · exact h.put y hy
    · exact h3
abbrev spAny0 (K : PySem.W.Frag) (S L : Nat) (W : Int) : Sp := spBkJ K 4 (fun ρ ds => ∃ a, ds = [.opq (.ref a), .int (S : Int), .int (L : Int), .int W] ∧ ρ = .some a ∧ 1 ≤ S ∧ S ≤ 25 ∧ L ≤ 100 ∧ 1 ≤ W ∧ W ≤ 100) 40000 (AnyBk S L W)
def spAny (K : PySem.W.Frag) : Sp := fun vs H Q E => ∃ S L W, spAny0 K S L W vs H Q E
theorem stats_of_all {R : Stn → Stn → Prop} : ∀ {bs : List Stn} {rs : List D}, All2 (fun d r => ∃ s s' : Stn, d = statD s ∧ r = statD s' ∧ R s s') (bs.map statD) rs → (∀ s s1 s' , statD s = statD s1 → R s s' → R s1 s') → ∃ ss : List Stn, rs = ss.map statD ∧ All2 R bs ss
  | [], _, .nil, _ => ⟨[], rfl, .nil⟩
  | x :: r, _, .cons h t, hr => by
    obtain ⟨ss, rfl, e⟩ := stats_of_all t hr
    obtain ⟨s, s', e1, rfl, h2⟩ := h
    exact ⟨s' :: ss, rfl, .cons (hr s x s' e1.symm h2) e⟩
theorem statD_inj {s s1 : Stn} (h : statD s = statD s1) : s = s1 := by
  obtain ⟨a, b, c⟩ := s
  obtain ⟨a', b', c'⟩ := s1
  simp [statD] at h
  obtain ⟨rfl, rfl, rfl⟩ := h
  rfl
theorem ok_any {f : Addr} {fd : FuncData} (F : Fun K "_law_any_book" "_law_any_book" s__law_any_book f fd) (T : Txt K mg) (c__law_take : C8.Cal P w K mg base 1 "_law_take" (spTake K) []) (c__law_flow_book : C8.Cal P w K mg base 5 "_law_flow_book" (spFlowB K) []) : FnOk P w K mg base CX0 6 f fd ["pot", "stations", "links", "window"] (spAny K) := by
  refine F.ok sc__law_any_book (fun vs H Q E h => by obtain ⟨_, _, _, h⟩ := h; exact spBkJ_len h) (fun cdv A outer s H vs Q E hr h => ?_)
  obtain ⟨S, L, W, h⟩ := h
  refine ⟨_, (pss_cons (ps_par (i := 4) (j := 5) (by rfl) sc__law_any_book.nd rfl rfl (by decide) rfl rfl (pa_cons (C8.pe_c c__law_flow_book hr (by omega) (by rfl) (pa_cons (pv 0) (pa_cons (pv 1) (pa_cons (pv 2) (pa_cons (pv 3) pa_nil))))) (pa_cons (C8.pe_c c__law_take hr (by omega) (by rfl) (pa_cons (pv 0) (pa_cons pe_int pa_nil))) pa_nil)) (by rfl))
 (pss_cons (ps_set (i := 6) sc__law_any_book.nd rfl (by first | exact Or.inl rfl | exact Or.inr rfl) (C8.pe_c c__law_take hr (by omega) (by rfl) (pa_cons (pv 0) (pa_cons (pe_callB call_len_seq (by rfl) T.b_len (by decide +kernel) (pa_cons (pe_dget (hu_of hr) (pv 4) pe_str (fun _ _ => rfl)) pa_nil)) pa_nil))))
 (pss_cons (ps_asg (pe_ix ix_list (pe_dget (hu_of hr) (pv 4) pe_str (fun _ _ => rfl)) (pv 6) (fun _ _ => rfl)) (pg_tup rfl (pgs_cons (pg_name (i := 7) sc__law_any_book.nd rfl (by first | exact Or.inl rfl | exact Or.inr rfl)) (pgs_cons (pg_name (i := 8) sc__law_any_book.nd rfl (by first | exact Or.inl rfl | exact Or.inr rfl)) (pgs_cons (pg_name (i := 9) sc__law_any_book.nd rfl (by first | exact Or.inl rfl | exact Or.inr rfl)) pgs_nil)))))
 (pss_cons (ps_if (pt_cmpR op_eq (pv 5) pe_int (by first | exact nomark _ | rfl)) (pss_one (ps_asg (pe_tup (pa_cons (pv 7) (pa_cons (pv 8) (pa_cons (pe_op op_add (pv 9) pe_int) pa_nil)))) (pg_sub (pe_dget (hu_of hr) (pv 4) pe_str (fun _ _ => rfl)) (pv 6) set_list))) pss_nil)
 (pss_cons (ps_if (pt_cmpR op_eq (pv 5) pe_int (by first | exact nomark _ | rfl)) (pss_one (ps_asg (pe_tup (pa_cons (pv 7) (pa_cons (pv 8) (pa_cons (pe_op op_add (pe_op op_add (pv 9) pe_int) (pe_callB (cr_sum (by rfl)) (by rfl) T.b_sum (by decide +kernel) (pa_cons (pe_lc (own := [("link", 13)]) rfl sc__law_any_book.nd (pi_list (pe_dget (hu_of hr) (pv 4) pe_str (fun _ _ => rfl))) (blkOk_by (N := ["pot", "stations", "links", "window", "own", "way", "at", "name", "level", "put", "one", "height", "its", "link"]) (sc := defScope s__law_any_book) (by decide +kernel)) (fun _ _ _ _ _ => (pg_name (i := 13) sc__law_any_book.nd rfl (by first | exact Or.inl rfl | exact Or.inr rfl))) (fun _ _ _ _ _ => pts_nil) (fun _ _ _ _ _ => (pe_op op_mulW (pe_ix (r := rIxT K) ix_tup (pv 13) pe_int (fun _ _ => rfl)) (pe_ix (r := rIxT K) ix_tup (pv 13) pe_int (fun _ _ => rfl))))) pa_nil))) pa_nil)))) (pg_sub (pe_dget (hu_of hr) (pv 4) pe_str (fun _ _ => rfl)) (pv 6) set_list))) pss_nil)
 (pss_cons (ps_if (pt_cmpR op_eq (pv 5) pe_int (by first | exact nomark _ | rfl)) (pss_one (ps_dput (hu_of hr) (pv 4) pe_str (pe_lc (own := [("one", 10), ("height", 11), ("its", 12)]) (g := (gTup K 3 (gCons (gName 10) (gCons (gName 11) (gCons (gName 12) gNil))))) rfl sc__law_any_book.nd (pi_list (pe_dget (hu_of hr) (pv 4) pe_str (fun _ _ => rfl))) (blkOk_by (N := ["pot", "stations", "links", "window", "own", "way", "at", "name", "level", "put", "one", "height", "its", "link"]) (sc := defScope s__law_any_book) (by decide +kernel)) (fun _ _ _ _ _ => (pg_tup rfl (pgs_cons (pg_name (i := 10) sc__law_any_book.nd rfl (by first | exact Or.inl rfl | exact Or.inr rfl)) (pgs_cons (pg_name (i := 11) sc__law_any_book.nd rfl (by first | exact Or.inl rfl | exact Or.inr rfl)) (pgs_cons (pg_name (i := 12) sc__law_any_book.nd rfl (by first | exact Or.inl rfl | exact Or.inr rfl)) pgs_nil))))) (fun _ _ _ _ _ => pts_nil) (fun _ _ _ _ _ => (pe_tup (pa_cons (pv 10) (pa_cons (pv 11) (pa_cons (pe_callTy call_int1 (by rfl) T.b_int (by decide +kernel) (pa_cons (C8.pe_c c__law_take hr (by omega) (by rfl) (pa_cons (pv 0) (pa_cons pe_int pa_nil))) pa_nil)) pa_nil)))))) rfl)) pss_nil)
 (pss_one (ps_ret (pv 4))))))))), bodyB_of (n := 4) (fun ρ ds hl hp => ?_) h⟩
  obtain ⟨a, rfl, rfl, hS1, hS2, hL, hW1, hW2⟩ := hp
  try dsimp only [cxOf, Cx.nox, Cx.wish]
  apply ex_kB
  · apply sjb_parCall (i := 4) (j := 5) (n := 4) (cc := 30000) (post := FlowBk S L W) (PA := (· = [.opq (.ref a), .int (S : Int), .int (L : Int), .int W])) (P := fun d => ∃ y, d = .int y) (by decide) rfl rfl
      (eda_cons (ed_var rfl) (eda_cons (ed_var rfl) (eda_cons (ed_var rfl) (eda_cons (ed_var rfl) eda_nil)))) (fun vs H Q h => ⟨S, L, W, h⟩) (fun ds e => ⟨by subst e; rfl, a, e, rfl, hS1, hS2, hL, hW1, hW2⟩)
      ((ej_take rfl (ed_var rfl) ed_int (by decide) (by decide)).mono (Nat.le_refl _) fun d hd => by obtain ⟨r, rfl, _⟩ := hd; exact ⟨r, rfl⟩)
    rintro b _ fb ⟨way, rfl⟩
    have ab : AnyBk S L W b := ⟨fb.good, fb.w, fb.s, fb.l, fb.m0, fb.late, fb.lev, fun s hs => by have := fb.put s hs; omega⟩
    apply sb_set (j := 6) (P := fun d => ∃ n : Nat, d = .int (n : Int) ∧ n < b.stations.length) (by decide)
    · apply ejb_peek rfl (by show 4 < 14; decide)
      · apply ej_call (PA := (· = [.opq (.ref a), .int ((b.stations.map statD).length : Nat)])) (eda_cons (ed_var rfl) (eda_cons (ed_cb (eda_cons (ed_dget (x := .inr "stations") (ed_var rfl) ed_str (bk_stations b)) eda_nil) cj_len) eda_nil))
        · rintro _ rfl
          have h1 := fb.good.one
          have h2 := fb.good.most
          exact ⟨rfl, a, _, rfl, rfl, by rw [List.length_map]; omega, by rw [List.length_map]; omega⟩
        · rintro _ d rfl hd
          obtain ⟨r, rfl, r0, r1⟩ := hd _ _ rfl
          rw [List.length_map] at r1
          exact ⟨r.toNat, by congr 1; omega, by omega⟩
      · rintro _ ⟨n, rfl, _⟩
        rfl
    rintro _ ⟨n, rfl, hn⟩
    obtain ⟨⟨nm, lv, pt⟩, hst⟩ : ∃ s, b.stations[n]? = some s := ⟨_, List.getElem?_eq_getElem hn⟩
    have hpt : 0 ≤ pt ∧ pt ≤ 30000 := fb.put _ (List.mem_of_getElem? hst)
    let dB : Dl := [some (.val (.opq (.ref a))), some (.val (.int (S : Int))), some (.val (.int (L : Int))), some (.val (.int W)), none, some (.val (.int way)), some (.val (.int (n : Int))), some (.val (.str nm)), some (.val (.int lv)), some (.val (.int pt)), none, none, none, none]
    apply sb_asg (L := [7, 8, 9]) (P := (· = statD (nm, lv, pt))) (δ' := fun _ => dB) (k1 := 0) (by decide)
    · apply ejb_peek rfl (by show 4 < 14; decide)
      · exact ed_op (ed_dget (x := .inr "stations") (ed_var rfl) ed_str (bk_stations b)) (ed_var rfl) (rj_ixL (atI_nat (by rw [List.getElem?_map, hst]; rfl)))
      · rintro _ rfl
        rfl
    · rintro _ rfl
      exact gj_tup (gsj_cons gj_name (gsj_cons gj_name (gsj_cons gj_name gsj_nil))) rfl
    rintro _ rfl
    have inv0 : AnyBk S L W b ∧ ∃ x, b.stations[n]? = some (nm, lv, x) := ⟨ab, pt, hst⟩
    clear hst hn ab fb
    have step5 : ∀ b1, (AnyBk S L W b1 ∧ ∃ x, b1.stations[n]? = some (nm, lv, x)) → SB (.some a) K E 4 b1 (tSeq (tIfS (tTest (tOp rEq (tVar 5) (tC (.int 5)))) (sDPut (tVar 4) (tC (.str "stations")) (tLc (iList K (tDGet (tVar 4) (tC (.str "stations")))) (gTup K 3 (gCons (gName 10) (gCons (gName 11) (gCons (gName 12) gNil)))) tYes (tTup (tCons (tVar 10) (tCons (tVar 11) (tCons (tCB (fun xs H Q => (∃ i, xs = [.int i] ∧ Q (.int i) H) ∨ ∃ k, xs = [.bl k] ∧ Q (.int (if k then 1 else 0)) H) (tCons (tCall (spTake K) [] C8.E0 (tCons (tVar 0) (tCons (tC (.int 7)) tNil))) tNil)) tNil)))) [10, 11, 12])) tNext) (tRet (tVar 4))) dB 100 (fun o => ∃ b, o = .rtB b ∧ AnyBk S L W b) := fun b1 inv1 => by
      apply sb_le
      · apply sb_ifs (PT := fun _ => True) (k1 := 0) (etb_peek rfl (by show 4 < 14; decide) ((eb_test (ed_op (ed_var rfl) ed_int rj_eqI)).mono (Nat.le_refl _) fun _ _ => trivial))
        · intro _
          apply sb_put (PS := fun ss => ss.map (·.1) = b1.stations.map (·.1) ∧ (∀ s ∈ ss, 0 ≤ s.2.1 ∧ s.2.1 ≤ 8) ∧ ∀ s ∈ ss, 0 ≤ s.2.2 ∧ s.2.2 ≤ 1000000) rfl
          · refine enb_peek (k := 0 + 25 * 1) (P := fun d => ∃ ss : List Stn, d = .lst (ss.map statD) ∧ ss.map (·.1) = b1.stations.map (·.1) ∧ (∀ s ∈ ss, 0 ≤ s.2.1 ∧ s.2.1 ≤ 8) ∧ ∀ s ∈ ss, 0 ≤ s.2.2 ∧ s.2.2 ≤ 1000000) rfl (by show 4 < 14; decide) ?_ ?_
            · refine (en_lc (L := [10, 11, 12]) (ke := 1) (PI := (· = b1.stations.map statD)) (N := 25) (p := fun _ => true) (R := fun d r => ∃ s s' : Stn, d = statD s ∧ r = statD s' ∧ s'.1 = s.1 ∧ s'.2.1 = s.2.1 ∧ 0 ≤ s'.2.2 ∧ s'.2.2 ≤ 1000000)
                (δt := fun d => match d with | .tup [x, y, z] => (((wipeD (dB.set 4 (some (.val (bkD b1)))) [10, 11, 12]).set 10 (some (.val x))).set 11 (some (.val y))).set 12 (some (.val z)) | _ => [])
                (ij_list (ed_dget (x := .inr "stations") (ed_var rfl) ed_str (bk_stations b1))) (fun ds e => by subst e; rw [List.length_map]; exact inv1.1.good.most) (fun i h => h) (by decide) (fun ds d e hd => ?_) (fun ds d e hd => eb_yes) (fun ds d e hd _ => ?_)).mono (Nat.le_refl _) fun r h => ?_
              · subst e
                obtain ⟨s, hs, rfl⟩ := List.mem_map.mp hd
                exact gj_tup (gsj_cons gj_name (gsj_cons gj_name (gsj_cons gj_name gsj_nil))) rfl
              · subst e
                obtain ⟨s, hs, rfl⟩ := List.mem_map.mp hd
                apply ej_le
                · apply ej_tup (PA := fun ds => ∃ y : Int, ds = [.str s.1, .int s.2.1, .int y] ∧ 0 ≤ y ∧ y ≤ 1000000)
                  · apply ea_cons (P1 := (· = .str s.1)) (PR := fun ds => ∃ y : Int, ds = [.int s.2.1, .int y] ∧ 0 ≤ y ∧ y ≤ 1000000) (ed_var rfl)
                    · intro _ _
                      apply ea_cons (P1 := (· = .int s.2.1)) (PR := fun ds => ∃ y : Int, ds = [.int y] ∧ 0 ≤ y ∧ y ≤ 1000000) (ed_var rfl)
                      · intro _ _
                        apply ea_cons (P1 := fun d => ∃ y : Int, d = .int y ∧ 0 ≤ y ∧ y ≤ 1000000) (PR := (· = []))
                        · apply ej_cb (PA := fun ds => ∃ y : Int, ds = [.int y] ∧ 0 ≤ y ∧ y ≤ 1000000)
                          · apply ea_cons (PR := (· = [])) (ej_take rfl (ed_var rfl) ed_int (by decide) (by decide))
                            · intro _ _
                              exact eda_nil
                            · rintro _ _ ⟨r, rfl, r0, r1⟩ rfl
                              exact ⟨r, rfl, r0, by omega⟩
                          · rintro _ ⟨y, rfl, h⟩
                            exact ⟨_, ⟨y, rfl, h⟩, cj_int⟩
                        · intro _ _
                          exact eda_nil
                        · rintro _ _ ⟨y, rfl, h⟩ rfl
                          exact ⟨y, rfl, h⟩
                      · rintro _ _ rfl ⟨y, rfl, h⟩
                        exact ⟨y, rfl, h⟩
                    · rintro _ _ rfl ⟨y, rfl, h⟩
                      exact ⟨y, rfl, h⟩
                  · rintro _ ⟨y, rfl, _⟩
                    show 3 ≤ 1000000
                    decide
                  · rintro _ ⟨y, rfl, h⟩
                    exact ⟨s, (s.1, s.2.1, y), rfl, rfl, rfl, rfl, h⟩
                · decide
              · obtain ⟨ds, rs, rfl, rfl, hall⟩ := h
                rw [filt_true] at hall
                obtain ⟨ss, rfl, h2⟩ := stats_of_all (R := fun s s' => s'.1 = s.1 ∧ s'.2.1 = s.2.1 ∧ 0 ≤ s'.2.2 ∧ s'.2.2 ≤ 1000000) hall (fun s s1 s' e h => by rw [← statD_inj e]; exact h)
                refine ⟨ss, rfl, ?_⟩
                have lv1 := inv1.1.lev
                clear hall
                generalize b1.stations = bs at h2 lv1
                induction h2 with
                | nil => exact ⟨rfl, by simp, by simp⟩
                | cons h _ ih =>
                  obtain ⟨i1, i2, i3⟩ := ih fun s hs => lv1 s (List.mem_cons_of_mem _ hs)
                  refine ⟨by rw [List.map_cons, List.map_cons, i1, h.1], fun s hs => ?_, fun s hs => ?_⟩
                  · rcases List.mem_cons.mp hs with rfl | hs
                    · rw [h.2.1]; exact lv1 _ (List.mem_cons_self ..)
                    · exact i2 s hs
                  · rcases List.mem_cons.mp hs with rfl | hs
                    · exact h.2.2
                    · exact i3 s hs
            · rintro _ ⟨ss, rfl, _⟩
              refine ⟨_, rfl, ?_⟩
              generalize ss = l
              induction l with
              | nil => rfl
              | cons x r ih => simpa [tupOL, tupO, statD] using ih
          rintro ss ⟨h1, h2, h3⟩
          apply sb_ret
          have el : ss.length = b1.stations.length := by
            have := congrArg List.length h1
            simpa using this
          exact ⟨_, rfl, ⟨inv1.1.good.anew h1, inv1.1.w, by show ss.length ≤ S; rw [el]; exact inv1.1.s, inv1.1.l, inv1.1.m0, inv1.1.late, h2, h3⟩⟩
        · intro _
          exact sb_next (sb_ret ⟨_, rfl, inv1.1⟩)
      · decide
    have hI : ∀ {b1 : Bk} {s : Stn}, (AnyBk S L W b1 ∧ ∃ x, b1.stations[n]? = some (nm, lv, x)) → (s.1 = nm ∧ s.2.1 = lv ∧ 0 ≤ s.2.2 ∧ s.2.2 ≤ 1000000) → (AnyBk S L W { b1 with stations := b1.stations.set n s } ∧ ∃ x, ({ b1 with stations := b1.stations.set n s } : Bk).stations[n]? = some (nm, lv, x)) := fun {b1 s} inv hs => by
      obtain ⟨ab1, x, hx⟩ := inv
      refine ⟨ab1.set hx hs.1 hs.2.1 hs.2.2, s.2.2, ?_⟩
      show (b1.stations.set n s)[n]? = _
      rw [List.getElem?_set_self (List.getElem?_eq_some_iff.mp hx).1, ← hs.1, ← hs.2.1]
    have hlt : ∀ {b1 : Bk}, (AnyBk S L W b1 ∧ ∃ x, b1.stations[n]? = some (nm, lv, x)) → n < b1.stations.length := fun {b1} inv => by
      obtain ⟨_, x, hx⟩ := inv
      exact (List.getElem?_eq_some_iff.mp hx).1
    -- if way == 3, then 4
    have step4 : ∀ b1, (AnyBk S L W b1 ∧ ∃ x, b1.stations[n]? = some (nm, lv, x)) → ∃ k, k ≤ 300 ∧ SB (.some a) K E 4 b1 (tSeq (tIfS (tTest (tOp rEq (tVar 5) (tC (.int 4)))) (tAsg (tTup (tCons (tVar 7) (tCons (tVar 8) (tCons (tOp (rI0 fun i j => V.int (i + j)) (tOp (rI0 fun i j => V.int (i + j)) (tVar 9) (tC (.int 1))) (tCB (rSum K) (tCons (tLc (iList K (tDGet (tVar 4) (tC (.str "links")))) (gName 13) tYes (tOp (rI CMulW fun i j => V.int (i * j)) (tOp (rIxT K) (tVar 13) (tC (.int 2))) (tOp (rIxT K) (tVar 13) (tC (.int 3)))) [13]) tNil))) tNil)))) (gSub (tDGet (tVar 4) (tC (.str "stations"))) (tVar 6) rSetL)) tNext) (tSeq (tIfS (tTest (tOp rEq (tVar 5) (tC (.int 5)))) (sDPut (tVar 4) (tC (.str "stations")) (tLc (iList K (tDGet (tVar 4) (tC (.str "stations")))) (gTup K 3 (gCons (gName 10) (gCons (gName 11) (gCons (gName 12) gNil)))) tYes (tTup (tCons (tVar 10) (tCons (tVar 11) (tCons (tCB (fun xs H Q => (∃ i, xs = [.int i] ∧ Q (.int i) H) ∨ ∃ k, xs = [.bl k] ∧ Q (.int (if k then 1 else 0)) H) (tCons (tCall (spTake K) [] C8.E0 (tCons (tVar 0) (tCons (tC (.int 7)) tNil))) tNil)) tNil)))) [10, 11, 12])) tNext) (tRet (tVar 4)))) dB k (fun o => ∃ b, o = .rtB b ∧ AnyBk S L W b) := fun b1 inv1 => by
      refine ⟨0 + (0 + 100 + 100), by decide, ?_⟩
      apply sb_ifs (PT := fun _ => True) (k1 := 0) (k2 := 0 + 100) (k3 := 100) (etb_peek rfl (by show 4 < 14; decide) ((eb_test (ed_op (ed_var rfl) ed_int rj_eqI)).mono (Nat.le_refl _) fun _ _ => trivial))
      · intro _
        have hroom : ∀ l ∈ b1.links, 0 ≤ l.2.2.1 * l.2.2.2 ∧ l.2.2.1 * l.2.2.2 ≤ 600 := fun l hl => by
          have h1 := inv1.1.good.links.room l hl
          have h2 := inv1.1.good.links.times l hl
          have h3 := inv1.1.good.w2
          have h4 : l.2.2.1 * l.2.2.2 ≤ 6 * 100 := Int.mul_le_mul (by omega) (by omega) (by omega) (by omega)
          exact ⟨Int.mul_nonneg (by omega) (by omega), h4⟩
        have hsum := isum_le (f := fun l => l.2.2.1 * l.2.2.2) (n := 600) (by decide) hroom
        have hmany := inv1.1.good.many
        apply sb_mut (n := n) (PS := fun s => s.1 = nm ∧ s.2.1 = lv ∧ 0 ≤ s.2.2 ∧ s.2.2 ≤ 1000000) rfl
        · apply ejb_peek rfl (by show 4 < 14; decide)
          · refine ej_ex (d := statD (nm, lv, pt + 1 + (b1.links.map fun l => l.2.2.1 * l.2.2.2).sum)) (ed_tup (eda_cons (ed_var rfl) (eda_cons (ed_var rfl) (eda_cons (ed_op (ed_op (ed_var rfl) ed_int rj_I0) (ed_cb (eda_cons (EN.ej ?_) eda_nil) cj_sum) rj_I0) eda_nil))) (by show 3 ≤ 1000000; decide)) ⟨_, rfl, rfl, rfl, by show 0 ≤ pt + 1 + _; omega, by show pt + 1 + _ ≤ 1000000; omega⟩
            refine (en_lcE (L := [13]) (ds := b1.links.map linkD) (p := fun _ => true) (f := fun d => match d with | .tup [_, _, .int r, .int t] => .int (r * t) | _ => .non) (ij_list (ed_dget (x := .inr "links") (ed_var rfl) ed_str (bk_links b1))) (fun i h => h) (by rw [List.length_map]; omega) (fun d _ => gj_name) (fun d _ => eb_yes) (fun d hd _ => ?_)).mono (Nat.le_refl _) fun r e => ?_
            · obtain ⟨l, hl, rfl⟩ := List.mem_map.mp hd
              have h1 := inv1.1.good.links.room l hl
              have h2 := inv1.1.good.links.times l hl
              have h3 := inv1.1.good.w2
              exact ed_op (ed_op (ed_var rfl) ed_int (rj_ixT rfl)) (ed_op (ed_var rfl) ed_int (rj_ixT rfl)) (rj_I (wide_mul (a := 20) (b := 20) (by omega) (by omega) (by decide) (by decide) (by decide)))
            · rw [e, filt_true, List.map_map, List.map_map]
              rfl
          · rintro _ ⟨s, rfl, _⟩
            rfl
        · rfl
        · exact hlt inv1
        · intro s hs
          exact step5 _ (hI inv1 hs)
      · intro _
        exact sb_next (step5 _ inv1)
    apply sb_ifs (PT := fun _ => True) (k1 := 0) (k2 := 0 + 300) (k3 := 300) (etb_peek rfl (by show 4 < 14; decide) ((eb_test (ed_op (ed_var rfl) ed_int rj_eqI)).mono (Nat.le_refl _) fun _ _ => trivial))
    · intro _
      apply sb_mut (n := n) (PS := fun s => s.1 = nm ∧ s.2.1 = lv ∧ 0 ≤ s.2.2 ∧ s.2.2 ≤ 1000000) rfl
      · apply ejb_peek rfl (by show 4 < 14; decide)
        · exact ej_ex (d := statD (nm, lv, pt + 1)) (ed_tup (eda_cons (ed_var rfl) (eda_cons (ed_var rfl) (eda_cons (ed_op (ed_var rfl) ed_int rj_I0) eda_nil))) (by show 3 ≤ 1000000; decide)) ⟨_, rfl, rfl, rfl, by show 0 ≤ pt + 1; omega, by show pt + 1 ≤ 1000000; omega⟩
        · rintro _ ⟨s, rfl, _⟩
          rfl
      · rfl
      · exact hlt inv0
      · intro s hs
        obtain ⟨k, hk, h⟩ := step4 _ (hI inv0 hs)
        exact sb_le h hk
    · intro _
      obtain ⟨k, hk, h⟩ := step4 _ inv0
      exact sb_next (sb_le h hk)
  · decide
end
end DN

namespace DN
open PySem PySem.Spec PyProof.Rows L2
variable [Tb]
abbrev s_is_integer : Stmt := topS 9
theorem sc_is_integer : FnScope ["value"] ["value"] (defScope s_is_integer) := ⟨rfl, rfl, rfl, by decide +kernel, rfl, by decide +kernel, by decide +kernel⟩
abbrev s_is_between : Stmt := topS 10
theorem sc_is_between : FnScope ["value", "least", "most"] ["value", "least", "most"] (defScope s_is_between) := ⟨rfl, rfl, rfl, by decide +kernel, rfl, by decide +kernel, by decide +kernel⟩
abbrev s_is_name : Stmt := topS 13
theorem sc_is_name : FnScope ["value", "letter"] ["value"] (defScope s_is_name) := ⟨rfl, rfl, rfl, by decide +kernel, rfl, by decide +kernel, by decide +kernel⟩
abbrev s_number_of : Stmt := topS 14
theorem sc_number_of : FnScope ["word", "number", "figure"] ["word"] (defScope s_number_of) := ⟨rfl, rfl, rfl, by decide +kernel, rfl, by decide +kernel, by decide +kernel⟩
structure Txv (K : PySem.W.Frag) (mg : Str → Option Value) : Prop extends Txt K mg where
  b_isinstance : mg "isinstance" = none
  b_all : mg "all" = none
  b_str : mg "str" = none
  b_bool : mg "bool" = none
  b_tuple : mg "tuple" = none
  b_enumerate : mg "enumerate" = none
  b_zip : mg "zip" = none
  k_LETTERS : ∃ u, mg "LETTERS" = some u ∧ RelV (.str "abcdefghijklmnopqrstuvwxyz") u
  k_FIGURES : ∃ u, mg "FIGURES" = some u ∧ RelV (.str "0123456789") u
  k_LONGEST_NAME : ∃ u, mg "LONGEST_NAME" = some u ∧ RelV (.int 8) u
  k_LONGEST_NUMBER : ∃ u, mg "LONGEST_NUMBER" = some u ∧ RelV (.int 9) u
  k_MOST_STATIONS : ∃ u, mg "MOST_STATIONS" = some u ∧ RelV (.int 20) u
  k_MOST_LEVEL : ∃ u, mg "MOST_LEVEL" = some u ∧ RelV (.int 300000000) u
  k_MOST_PUT : ∃ u, mg "MOST_PUT" = some u ∧ RelV (.int 1000000) u
  k_MOST_LINKS : ∃ u, mg "MOST_LINKS" = some u ∧ RelV (.int 60) u
  k_MOST_ROOM : ∃ u, mg "MOST_ROOM" = some u ∧ RelV (.int 1000) u
def isIntD : D → Bool
  | .int _ => true
  | _ => false
def betD (lo hi : Int) : D → Bool
  | .int n => decide (lo ≤ n) && decide (n ≤ hi)
  | _ => false
theorem ty_cases {d : D} (h : (tyD d).isSome = true) : ∃ t b1 b2, tyD d = some t ∧ kitB t "int" = some b1 ∧ (b1 = true → kitB t "bool" = some b2) ∧ (b1 && !b2) = isIntD d := by
  cases d with
  | non => exact ⟨_, false, false, rfl, by decide +kernel, (fun e => nomatch e), rfl⟩
  | bl b => exact ⟨_, true, true, rfl, by decide +kernel, fun _ => by decide +kernel, rfl⟩
  | int b => exact ⟨_, true, false, rfl, by decide +kernel, fun _ => by decide +kernel, rfl⟩
  | str b => exact ⟨_, false, false, rfl, by decide +kernel, (fun e => nomatch e), rfl⟩
  | tup l => exact ⟨_, false, false, rfl, by decide +kernel, (fun e => nomatch e), rfl⟩
  | lst l => cases h
  | dct l => cases h
  | ins a l => cases h
  | exc a l => cases h
  | opq l => cases h
  | scr l => cases h
  | cau a p c l => cases h
section
variable {P : Program} {w : World} {K : PySem.W.Frag} {mg : Str → Option Value} {base : Heap}
abbrev spIsInt (K : PySem.W.Frag) : Sp := spJ K 1 (fun _ ds => ∃ d, ds = [d] ∧ (tyD d).isSome = true) 0 (fun ds r => ∀ d, ds = [d] → r = .bl (isIntD d))
theorem ok_isInt {f : Addr} {fd : FuncData} (F : Fun K "is_integer" "is_integer" s_is_integer f fd) (T : Txv K mg) : FnOk P w K mg base CX0 1 f fd ["value"] (spIsInt K) := by
  refine F.ok sc_is_integer (fun vs H Q E h => spJ_len h) (fun cdv A outer s H vs Q E hr h => ?_)
  refine ⟨_, (pss_one (ps_ret (pe_and (pe_callB call_isi (by rfl) T.b_isinstance (by decide +kernel) (pa_cons (pv 0) (pa_cons (pe_bltn (v := .ty "int") (by rfl) T.b_int (by decide +kernel) rfl) pa_nil))) (pe_one (pe_not (pe_callB call_isi (by rfl) T.b_isinstance (by decide +kernel) (pa_cons (pv 0) (pa_cons (pe_bltn (v := .ty "bool") (by rfl) T.b_bool (by decide +kernel) rfl) pa_nil)))))))), body_of (n := 1) (fun ρ ds hl hp => ?_) h⟩
  obtain ⟨d, rfl, hd⟩ := hp
  obtain ⟨t, b1, b2, e1, e2, e3, e4⟩ := ty_cases hd
  try dsimp only [cxOf, Cx.nox, Cx.wish]
  apply ex_k
  · apply sj_retP (P := (· = .bl (isIntD d)))
    · rw [← e4]
      exact ed_andV (ed_cb (eda_cons (ed_var rfl) (eda_cons ed_opq eda_nil)) (cj_isi e1 e2)) fun e => ed_notV (ed_cb (eda_cons (ed_var rfl) (eda_cons ed_opq eda_nil)) (cj_isi e1 (e3 e)))
    rintro _ rfl
    exact .inl ⟨_, rfl, fun d' e => by cases e; rfl⟩
  · decide
abbrev spBet (K : PySem.W.Frag) : Sp := spJ K 3 (fun _ ds => ∃ d lo hi, ds = [d, .int lo, .int hi] ∧ (tyD d).isSome = true) 0 (fun ds r => ∀ d lo hi, ds = [d, .int lo, .int hi] → r = .bl (betD lo hi d))
theorem ok_bet {f : Addr} {fd : FuncData} (F : Fun K "is_between" "is_between" s_is_between f fd) (T : Txv K mg) (c_is_integer : C8.Cal P w K mg base 1 "is_integer" (spIsInt K) []) : FnOk P w K mg base CX0 2 f fd ["value", "least", "most"] (spBet K) := by
  refine F.ok sc_is_between (fun vs H Q E h => spJ_len h) (fun cdv A outer s H vs Q E hr h => ?_)
  refine ⟨_, (pss_one (ps_ret (pe_and (C8.pe_c c_is_integer hr (by omega) (by rfl) (pa_cons (pv 0) pa_nil)) (pe_one (pe_chain op_le op_le (pv 1) (pv 0) (pv 2)))))), body_of (n := 3) (fun ρ ds hl hp => ?_) h⟩
  obtain ⟨d, lo, hi, rfl, hd⟩ := hp
  try dsimp only [cxOf, Cx.nox, Cx.wish]
  apply ex_k
  · apply sj_retP (P := (· = .bl (betD lo hi d)))
    · have hb : betD lo hi d = (isIntD d && betD lo hi d) := by cases d <;> rfl
      rw [hb]
      apply ed_andV
      · exact ej_call (PA := (· = [d])) (eda_cons (ed_var rfl) eda_nil) (fun ds e => ⟨by subst e; rfl, d, e, hd⟩) (fun ds r e h => h d e)
      · intro e
        cases d with
        | int n => exact ed_leLe (ed_var rfl) (ed_var rfl) (ed_var rfl)
        | _ => cases e
    rintro _ rfl
    exact .inl ⟨_, rfl, fun d' lo' hi' e => by cases e; rfl⟩
  · decide
theorem chr_all {z : Str} {p : Nat → Bool} (h : ∀ c ∈ z.cps.toList, p c = true) : ((z.cps.toList.map p).all id) = true := by
  rw [List.all_eq_true]
  intro x hx
  obtain ⟨c, hc, rfl⟩ := List.mem_map.mp hx
  exact h c hc
theorem wipeD_set {δ : Dl} {i : Nat} {x : Option Sl} (hi : i < δ.length) : ((wipeD δ [i]).set i x)[i]? = some x := by
  rw [List.getElem?_set_self (by rw [wipeD_len]; exact hi)]
theorem ed_allSign {ρ : Rh} {δ : Dl} {te : TE} {z S : Str} {i : Nat} (h : ED ρ K te δ (.str z)) (hz : z.length ≤ 1000000) (hi : i < δ.length) (hc : ∀ c ∈ z.cps.toList, c ∈ S.cps.toList) :
    ED ρ K (tCB (rAll K) (tCons (tLc (iStr te) (gName i) tYes (tOp rInSign (tVar i) (tC (.str S))) [i]) tNil)) δ (.bl true) := by
  have e : (z.cps.toList.map fun c => decide (c ∈ S.cps.toList)).all id = true := chr_all fun c h => decide_eq_true (hc c h)
  rw [← e]
  refine ed_cb (eda_cons (EN.ej ?_) eda_nil) cj_all
  refine (en_lcE (L := [i]) (ds := chrD z) (p := fun _ => true) (f := fun d => match d with | .str s => .bl (decide (s.cps.toList.headD 0 ∈ S.cps.toList)) | _ => .non) (δt := fun d => (wipeD δ [i]).set i (some (.val d))) (ij_str h) (fun i h => h) (by
    show (z.cps.toList.map _).length ≤ _
    rw [List.length_map, ← str_len]
    exact hz) (fun d _ => gj_name) (fun d _ => eb_yes) (fun d hd _ => ?_)).mono (Nat.le_refl _) fun r e => ?_
  · obtain ⟨c, hc, rfl⟩ := List.mem_map.mp hd
    exact ed_op (ed_var (wipeD_set hi)) ed_str rj_inSign
  · rw [e, filt_true]
    unfold chrD
    rw [List.map_map, List.map_map]
    rfl
abbrev spName (K : PySem.W.Frag) : Sp := spJ K 1 (fun _ ds => ∃ z, ds = [.str z] ∧ isN z) 0 (fun _ r => r = .bl true)
theorem low_in {c : Nat} (h : 97 ≤ c ∧ c ≤ 122) : c ∈ (abc : Str).cps.toList := by
  have e : (abc : Str).cps.toList = List.range' 97 26 := by decide +kernel
  rw [e, List.mem_range'_1]
  omega
theorem fig_in {c : Nat} (h : 48 ≤ c ∧ c ≤ 57) : c ∈ ("0123456789" : Str).cps.toList := by
  have e : ("0123456789" : Str).cps.toList = List.range' 48 10 := by decide +kernel
  rw [e, List.mem_range'_1]
  omega
theorem ok_name {f : Addr} {fd : FuncData} (F : Fun K "is_name" "is_name" s_is_name f fd) (T : Txv K mg) : FnOk P w K mg base CX0 1 f fd ["value"] (spName K) := by
  refine F.ok sc_is_name (fun vs H Q E h => spJ_len h) (fun cdv A outer s H vs Q E hr h => ?_)
  refine ⟨_, (pss_cons (ps_if (PW.pt (pw_or (pt_not (pt_val (pe_callB call_isi (by rfl) T.b_isinstance (by decide +kernel) (pa_cons (pv 0) (pa_cons (pe_bltn (v := .ty "str") (by rfl) T.b_str (by decide +kernel) rfl) pa_nil))))) (pw_or1 (pt_not (pt_chain op_le op_le pe_int (pe_callB call_len (by rfl) T.b_len (by decide +kernel) (pa_cons (pv 0) pa_nil)) (C8.pe_gc (by rfl) T.k_LONGEST_NAME)))))) (pss_one (ps_ret pe_bl)) pss_nil)
 (pss_one (ps_ret (pe_callB (cr_all (by rfl)) (by rfl) T.b_all (by decide +kernel) (pa_cons (pe_lc (own := [("letter", 1)]) rfl sc_is_name.nd (pi_str (pv 0)) (blkOk_by (N := ["value", "letter"]) (sc := defScope s_is_name) (by decide +kernel)) (fun _ _ _ _ _ => (pg_name (i := 1) sc_is_name.nd rfl (by first | exact Or.inl rfl | exact Or.inr rfl))) (fun _ _ _ _ _ => pts_nil) (fun _ _ _ _ _ => (pe_cmpR op_in_sign (pv 1) (C8.pe_gc (by rfl) T.k_LETTERS) (by first | exact nomark _ | rfl)))) pa_nil))))), body_of (n := 1) (fun ρ ds hl hp => ?_) h⟩
  obtain ⟨z, rfl, hz⟩ := hp
  have h1 := hz.lo
  have h2 := hz.hi
  try dsimp only [cxOf, Cx.nox, Cx.wish]
  apply ex_k
  · apply sj_ifs (k2 := 0) (PT := (· = false))
    · apply et_or (PA := (· = false)) (PB := (· = false))
      · exact (eb_not (eb_B (ed_cb (eda_cons (ed_var rfl) (eda_cons ed_opq eda_nil)) (cj_isi rfl (x := true) (by decide +kernel))))).mono (Nat.le_refl _) fun b e => e
      · intro _
        refine (eb_not (eb_test (ed_leLe ed_int (ed_cb (eda_cons (ed_var rfl) eda_nil) (cj_lenAS (z := z) (by omega))) ed_int))).mono (Nat.le_refl _) fun b e => ?_
        rw [e, decide_eq_true (by omega), decide_eq_true (by omega)]
        rfl
      · intro e; cases e
      · exact fun b _ e => e
    · intro e; cases e
    · intro _
      apply sj_nexts
      apply sj_retP (P := (· = .bl true))
      · exact ed_allSign (ed_var rfl) (by omega) (show 1 < 2 by decide) fun c hc => low_in (hz.lt c hc)
      rintro _ rfl
      exact .inl ⟨_, rfl, rfl⟩
  · decide
abbrev spNum (K : PySem.W.Frag) : Sp := spJ K 1 (fun _ ds => ∃ n, ds = [.str (sI n)] ∧ smallI n) 0 (fun ds r => ∀ n, ds = [.str (sI n)] → smallI n → r = .int n)
theorem sI_nat {n : Int} (h : smallI n) : ∃ m : Nat, n = (m : Int) ∧ (sI n).cps.toList = TL.numL m ∧ (sI n).length ≤ 9 ∧ 1 ≤ (sI n).length ∧ intText? (sI n) = some n := by
  obtain ⟨m, rfl⟩ : ∃ m : Nat, n = (m : Int) := ⟨n.toNat, by have := h.1; omega⟩
  have e : (sI (m : Int)).cps.toList = TL.numL m := TL.tl_num m
  have hl : (TL.numL m).length ≤ 9 := TL.numL_len (by decide) (by have := h.2; omega)
  have hne := TL.numL_ne m
  refine ⟨m, rfl, e, by rw [str_len, e]; exact hl, ?_, TL.int_num (by omega)⟩
  rw [str_len, e]
  exact List.length_pos_iff.mpr hne
theorem sI_inj {n m : Int} (hn : smallI n) (hm : smallI m) (h : sI n = sI m) : n = m := by
  obtain ⟨_, _, _, _, _, e1⟩ := sI_nat hn
  obtain ⟨_, _, _, _, _, e2⟩ := sI_nat hm
  rw [h, e2] at e1
  exact (Option.some.inj e1).symm
theorem ok_num {f : Addr} {fd : FuncData} (F : Fun K "number_of" "number_of" s_number_of f fd) (T : Txv K mg) : FnOk P w K mg base CX0 1 f fd ["word"] (spNum K) := by
  refine F.ok sc_number_of (fun vs H Q E h => spJ_len h) (fun cdv A outer s H vs Q E hr h => ?_)
  refine ⟨_, (pss_cons (ps_if (PW.pt (pw_or (pt_not (pt_chain op_le op_le pe_int (pe_callB call_len (by rfl) T.b_len (by decide +kernel) (pa_cons (pv 0) pa_nil)) (C8.pe_gc (by rfl) T.k_LONGEST_NUMBER))) (pw_or1 (pt_not (pt_val (pe_callB (cr_all (by rfl)) (by rfl) T.b_all (by decide +kernel) (pa_cons (pe_lc (own := [("figure", 2)]) rfl sc_number_of.nd (pi_str (pv 0)) (blkOk_by (N := ["word", "number", "figure"]) (sc := defScope s_number_of) (by decide +kernel)) (fun _ _ _ _ _ => (pg_name (i := 2) sc_number_of.nd rfl (by first | exact Or.inl rfl | exact Or.inr rfl))) (fun _ _ _ _ _ => pts_nil) (fun _ _ _ _ _ => (pe_cmpR op_in_sign (pv 2) (C8.pe_gc (by rfl) T.k_FIGURES) (by first | exact nomark _ | rfl)))) pa_nil))))))) (pss_one (ps_ret pe_non)) pss_nil)
 (pss_cons (ps_set (i := 1) sc_number_of.nd rfl (by first | exact Or.inl rfl | exact Or.inr rfl) (pe_callTy call_int_str (by rfl) T.b_int (by decide +kernel) (pa_cons (pv 0) pa_nil)))
 (pss_one (ps_ret (pe_ifExp (pt_cmpR op_eq (pe_callTy call_str_int (by rfl) T.b_str (by decide +kernel) (pa_cons (pv 1) pa_nil)) (pv 0) (by first | exact nomark _ | rfl)) (pv 1) pe_non))))), body_of (n := 1) (fun ρ ds hl hp => ?_) h⟩
  obtain ⟨n, rfl, hn⟩ := hp
  obtain ⟨m, e1, e2, l9, l1, ei⟩ := sI_nat hn
  try dsimp only [cxOf, Cx.nox, Cx.wish]
  apply ex_k
  · apply sj_ifs (k2 := 0) (PT := (· = false))
    · apply et_or (PA := (· = false)) (PB := (· = false))
      · refine (eb_not (eb_test (ed_leLe ed_int (ed_cb (eda_cons (ed_var rfl) eda_nil) (cj_lenAS (z := sI n) (by omega))) ed_int))).mono (Nat.le_refl _) fun b e => ?_
        rw [e, decide_eq_true (by omega), decide_eq_true (by omega)]
        rfl
      · intro _
        refine (eb_not (eb_B (ed_allSign (ed_var rfl) (by omega) (show 2 < 3 by decide) fun c hc => fig_in ?_))).mono (Nat.le_refl _) fun b e => e
        rw [e2] at hc
        exact TL.numL_digits m c hc
      · intro e; cases e
      · exact fun b _ e => e
    · intro e; cases e
    · intro _
      apply sj_nexts
      apply sj_set (P := (· = .int n))
      · exact ed_cb (eda_cons (ed_var rfl) eda_nil) (cj_intStr ei (by omega))
      rintro _ rfl
      apply sj_retP (P := (· = .int n))
      · have hs : decide (sI n = sI n) = true := decide_eq_true rfl
        refine (ed_if (x := true) (a := .int n) (b := .non) ?_ (fun _ => ed_var rfl) (fun e => nomatch e))
        rw [← hs]
        exact eb_test (ed_op (eds_int (ed_var rfl) hn).ed (ed_var rfl) rj_eqS)
      rintro _ rfl
      refine .inl ⟨_, rfl, fun n' e hn' => ?_⟩
      have : sI n = sI n' := by
        have := List.cons.inj e
        simpa using this.1
      rw [sI_inj hn hn' this]
  · decide
end
end DN

namespace DN
open PySem PySem.Spec PyProof.Rows L2
variable [Tb]
abbrev s_values_of : Stmt := topS 37
theorem sc_values_of : FnScope ["words", "names", "word"] ["words", "names"] (defScope s_values_of) := ⟨rfl, rfl, rfl, by decide +kernel, rfl, by decide +kernel, by decide +kernel⟩
abbrev s_is_station : Stmt := topS 38
theorem sc_is_station : FnScope ["value", "goal", "stations", "name", "level", "put", "station"] ["value", "goal", "stations"] (defScope s_is_station) := ⟨rfl, rfl, rfl, by decide +kernel, rfl, by decide +kernel, by decide +kernel⟩
abbrev s_is_link : Stmt := topS 39
theorem sc_is_link : FnScope ["value", "window", "goal", "stations", "links", "whence", "whither", "room", "times", "names", "station", "link"] ["value", "window", "goal", "stations", "links"] (defScope s_is_link) := ⟨rfl, rfl, rfl, by decide +kernel, rfl, by decide +kernel, by decide +kernel⟩
theorem sl_tupK {X : Cx} (K : PySem.W.Frag) (h : X.K = K) : SlR X (rSlT K) := by
  subst h
  exact sl_tup
section
variable {ρ : Rh} {K : PySem.W.Frag} {δ : Dl} {te ta tb : TE} {i : Nat}
theorem any_str {z : Str} : ∀ {l : List Str}, (l.map D.str).any (fun y => eqF y (.str z)) = decide (z ∈ l)
  | [] => by simp
  | x :: r => by
    have ih := any_str (z := z) (l := r)
    rw [List.map_cons, List.any_cons, ih]
    show ((x == z) || decide (z ∈ r)) = decide (z ∈ x :: r)
    rw [Bool.eq_iff_iff]
    simp only [Bool.or_eq_true, beq_iff_eq, decide_eq_true_eq, List.mem_cons]
    exact or_congr ⟨fun e => e.symm, fun e => e.symm⟩ Iff.rfl
theorem all_str (l : List Str) : (l.map D.str).all atomD = true := by
  rw [List.all_eq_true]
  intro x hx
  obtain ⟨y, _, rfl⟩ := List.mem_map.mp hx
  rfl
theorem rj_inStr {neg : Bool} {z : Str} {l : List Str} : RJ K (rIn K neg) (.str z) (.lst (l.map D.str)) (.bl (if neg then !decide (z ∈ l) else decide (z ∈ l))) := by
  rw [← any_str]
  exact rj_in rfl (all_str l)
/-- [s[0] for s in stations] -/
theorem en_names {ss : List Stn} (h : ED ρ K te δ (.tup (ss.map statD))) (hn : ss.length ≤ 1000) (hi : i < δ.length) :
    EN ρ K (tLc (iTup K te) (gName i) tYes (tOp (rIxT K) (tVar i) (tC (.int 0))) [i]) δ 0 (· = .lst ((ss.map (·.1)).map D.str)) :=
  (en_lcE (L := [i]) (ds := ss.map statD) (p := fun _ => true) (f := fun d => match d with | .tup (x :: _) => x | _ => .non) (δt := fun d => (wipeD δ [i]).set i (some (.val d))) (ij_tup h) (fun i h => h) (by rw [List.length_map]; omega) (fun d _ => gj_name) (fun d _ => eb_yes) (fun d hd _ => by
    obtain ⟨s, hs, rfl⟩ := List.mem_map.mp hd
    exact ed_op (ed_var (wipeD_set hi)) ed_int (rj_ixT rfl))).mono (Nat.le_refl _) fun r e => by
    rw [e, filt_true, List.map_map, List.map_map]
    rfl
theorem rj_pairIn {p : Str × Str} {ps : List (Str × Str)} (ok : okP p) (oks : ∀ p ∈ ps, okP p) : RJ K (rInD K) (pairD p) (.lst (ps.map pairD)) (.bl (decide (p ∈ ps))) := .mk fun x y G H Q hx hy s q => by
  have h1 := at_dp (hx.mono s) (by simp [pairD, seqD, seqL])
  have h2 := at_dp (hy.mono s) (by
    show seqL (ps.map pairD) = true
    exact seqL_map (fun a => by simp [pairD, seqD, seqL]) ps)
  rw [py, pyL_map] at h2
  refine ⟨_, _, h1, h2, shaped_pair ok, shaped_pairs oks, ?_⟩
  have e : ((ps.map fun a => py (pairD a)).any fun z => PyData.eqv z (py (pairD p))) = decide (p ∈ ps) := by
    rw [Bool.eq_iff_iff]
    simp [eqv_pair]
  rw [e]
  exact q _ G H (Gd.refl s) (.bl _)
end
theorem nums_of : ∀ {ns : List Int} {rs : List D}, (∀ n ∈ ns, smallI n) → All2 (fun d r => ∃ n, smallI n ∧ d = D.str (sI n) ∧ r = D.int n) ((ns.map sI).map D.str) rs → rs = ns.map D.int
  | [], _, _, .nil => rfl
  | n :: r, _, h, .cons h1 t => by
    obtain ⟨m, hm, e, rfl⟩ := h1
    have e2 : sI n = sI m := D.str.inj e
    rw [nums_of (fun x hx => h x (List.mem_cons_of_mem _ hx)) t, sI_inj (h n (List.mem_cons_self ..)) hm e2]
    rfl
section
variable {P : Program} {w : World} {K : PySem.W.Frag} {mg : Str → Option Value} {base : Heap}
abbrev spVals0 (K : PySem.W.Frag) (ws : List Str) (ns : List Int) : Sp := spJ K 2 (fun _ ds => ds = [.lst ((ws ++ ns.map sI).map D.str), .int (ws.length : Nat)] ∧ (∀ n ∈ ns, smallI n) ∧ ws.length + ns.length ≤ 1000) 0 (fun _ r => r = .tup (ws.map D.str ++ ns.map D.int))
def spVals (K : PySem.W.Frag) : Sp := fun vs H Q E => ∃ ws ns, spVals0 K ws ns vs H Q E
theorem ok_vals {f : Addr} {fd : FuncData} (F : Fun K "values_of" "values_of" s_values_of f fd) (T : Txv K mg) (c_number_of : C8.Cal P w K mg base 1 "number_of" (spNum K) []) : FnOk P w K mg base CX0 2 f fd ["words", "names"] (spVals K) := by
  refine F.ok sc_values_of (fun vs H Q E h => by obtain ⟨_, _, h⟩ := h; exact spJ_len h) (fun cdv A outer s H vs Q E hr h => ?_)
  obtain ⟨ws, ns, h⟩ := h
  refine ⟨_, (pss_one (ps_ret (pe_callTy call_tuple_of (by rfl) T.b_tuple (by decide +kernel) (pa_cons (pe_op op_cat (pe_slice sl_list (pv 0) po_none (po_some (pv 1))) (pe_lc (own := [("word", 2)]) rfl sc_values_of.nd (pi_list (pe_slice sl_list (pv 0) (po_some (pv 1)) po_none)) (blkOk_by (N := ["words", "names", "word"]) (sc := defScope s_values_of) (by decide +kernel)) (fun _ _ _ _ _ => (pg_name (i := 2) sc_values_of.nd rfl (by first | exact Or.inl rfl | exact Or.inr rfl))) (fun _ _ _ _ _ => pts_nil) (fun _ _ _ _ _ => (C8.pe_c c_number_of hr (by omega) (by rfl) (pa_cons (pv 2) pa_nil))))) pa_nil)))), body_of (n := 2) (fun ρ ds hl hp => ?_) h⟩
  obtain ⟨rfl, hn, hlen⟩ := hp
  try dsimp only [cxOf, Cx.nox, Cx.wish]
  have c1 : cutD ((ws ++ ns.map sI).map D.str) none (some ((ws.length : Nat) : Int)) = ws.map D.str := by
    rw [cut_to (by omega), List.map_append]
    simp
  have c2 : cutD ((ws ++ ns.map sI).map D.str) (some ((ws.length : Nat) : Int)) none = (ns.map sI).map D.str := by
    rw [cut_from (by omega), List.map_append]
    simp
  apply ex_k
  · apply sj_retP (P := (· = .tup (ws.map D.str ++ ns.map D.int)))
    · refine ed_cb (eda_cons (EN.ej (en_catE (EN.ej ((en_sl (ed_var rfl) eo_none (eo_some (ed_var rfl))).mono (Nat.le_refl _) fun d e => by rw [e, c1])) (EN.ej (EN.mono (k' := 0)
        (en_lc (L := [2]) (ke := 0) (N := 1000) (PI := (· = (ns.map sI).map D.str)) (p := fun _ => true) (R := fun d r => ∃ n, smallI n ∧ d = D.str (sI n) ∧ r = D.int n) (δt := fun d => (wipeD _ [2]).set 2 (some (.val d)))
          (ij_list (EN.ej ((en_sl (ed_var rfl) (eo_some (ed_var rfl)) eo_none).mono (Nat.le_refl _) fun d e => by rw [e, c2]))) (fun ds e => by subst e; rw [List.length_map, List.length_map]; omega) (fun i h => h) (by decide) (fun ds d _ _ => gj_name) (fun ds d _ _ => eb_yes) (fun ds d e hd _ => ?_)) (by decide) (fun r h => ?_))) ?_)) eda_nil) cj_tupL
      · subst e
        obtain ⟨x, hx, rfl⟩ := List.mem_map.mp hd
        obtain ⟨n, hn', rfl⟩ := List.mem_map.mp hx
        exact ej_call (PA := (· = [.str (sI n)])) (eda_cons (ed_var rfl) eda_nil) (fun ds e => ⟨by subst e; rfl, n, e, hn n hn'⟩) (fun ds r e h => ⟨n, hn n hn', rfl, h n e (hn n hn')⟩)
      · obtain ⟨ds, rs, rfl, rfl, hall⟩ := h
        rw [filt_true] at hall
        rw [nums_of hn hall]
      · rw [List.length_map, List.length_map]
        omega
    rintro _ rfl
    exact .inl ⟨_, rfl, rfl⟩
  · decide
/-- what a station is behind others -/
structure StOk (goal : Str) (ss : List Stn) (s : Stn) : Prop where
  nm : isN s.1
  ng : s.1 ≠ goal
  nw : s.1 ∉ ss.map (·.1)
  lv : 0 ≤ s.2.1 ∧ s.2.1 ≤ 300000000
  pt : 0 ≤ s.2.2 ∧ s.2.2 ≤ 1000000
  len : ss.length ≤ 1000
abbrev spStat0 (K : PySem.W.Frag) (goal : Str) (ss : List Stn) (s : Stn) : Sp := spJ K 3 (fun _ ds => ds = [statD s, .str goal, .tup (ss.map statD)] ∧ StOk goal ss s) 0 (fun _ r => r = .bl true)
def spStat (K : PySem.W.Frag) : Sp := fun vs H Q E => ∃ goal ss s, spStat0 K goal ss s vs H Q E
theorem ed_bet {ρ : Rh} {δ : Dl} {ta tb tc : TE} {E : XK} {x lo hi : Int} (ha : ED ρ K ta δ (.int x)) (hb : ED ρ K tb δ (.int lo)) (hc : ED ρ K tc δ (.int hi)) (h : lo ≤ x ∧ x ≤ hi) : ED ρ K (tCall (spBet K) [] E (tCons ta (tCons tb (tCons tc tNil)))) δ (.bl true) :=
  ej_call (PA := (· = [.int x, .int lo, .int hi])) (eda_cons ha (eda_cons hb (eda_cons hc eda_nil))) (fun ds e => ⟨by subst e; rfl, _, _, _, e, rfl⟩) (fun ds r e h' => by
    rw [h' _ _ _ e]
    show D.bl (decide (lo ≤ x) && decide (x ≤ hi)) = .bl true
    rw [decide_eq_true h.1, decide_eq_true h.2]
    rfl)
theorem ok_station {f : Addr} {fd : FuncData} (F : Fun K "is_station" "is_station" s_is_station f fd) (T : Txv K mg) (c_is_name : C8.Cal P w K mg base 1 "is_name" (spName K) []) (c_is_between : C8.Cal P w K mg base 2 "is_between" (spBet K) []) : FnOk P w K mg base CX0 3 f fd ["value", "goal", "stations"] (spStat K) := by
  refine F.ok sc_is_station (fun vs H Q E h => by obtain ⟨_, _, _, h⟩ := h; exact spJ_len h) (fun cdv A outer s H vs Q E hr h => ?_)
  obtain ⟨goal, ss, st, h⟩ := h
  refine ⟨_, (pss_cons (ps_if (PW.pt (pw_or (pt_not (pt_val (pe_callB call_isi (by rfl) T.b_isinstance (by decide +kernel) (pa_cons (pv 0) (pa_cons (pe_bltn (v := .ty "tuple") (by rfl) T.b_tuple (by decide +kernel) rfl) pa_nil))))) (pw_or1 (pt_cmpR op_ne (pe_callB call_len_seq (by rfl) T.b_len (by decide +kernel) (pa_cons (pv 0) pa_nil)) pe_int (by first | exact nomark _ | rfl))))) (pss_one (ps_ret pe_bl)) pss_nil)
 (pss_cons (ps_asg (pv 0) (pg_tup rfl (pgs_cons (pg_name (i := 3) sc_is_station.nd rfl (by first | exact Or.inl rfl | exact Or.inr rfl)) (pgs_cons (pg_name (i := 4) sc_is_station.nd rfl (by first | exact Or.inl rfl | exact Or.inr rfl)) (pgs_cons (pg_name (i := 5) sc_is_station.nd rfl (by first | exact Or.inl rfl | exact Or.inr rfl)) pgs_nil)))))
 (pss_cons (ps_if (PW.pt (pw_or (pt_not (pt_val (C8.pe_c c_is_name hr (by omega) (by rfl) (pa_cons (pv 3) pa_nil)))) (pw_or (pt_cmpR op_eq (pv 3) (pv 1) (by first | exact nomark _ | rfl)) (pw_or1 (pt_cmpR op_in_seq (pv 3) (pe_lc (own := [("station", 6)]) rfl sc_is_station.nd (pi_tup (pv 2)) (blkOk_by (N := ["value", "goal", "stations", "name", "level", "put", "station"]) (sc := defScope s_is_station) (by decide +kernel)) (fun _ _ _ _ _ => (pg_name (i := 6) sc_is_station.nd rfl (by first | exact Or.inl rfl | exact Or.inr rfl))) (fun _ _ _ _ _ => pts_nil) (fun _ _ _ _ _ => (pe_ix (r := rIxT K) ix_tup (pv 6) pe_int (fun _ _ => rfl)))) (by first | exact nomark _ | rfl)))))) (pss_one (ps_ret pe_bl)) pss_nil)
 (pss_one (ps_ret (pe_and (C8.pe_c c_is_between hr (by omega) (by rfl) (pa_cons (pv 4) (pa_cons pe_int (pa_cons (C8.pe_gc (by rfl) T.k_MOST_LEVEL) pa_nil)))) (pe_one (C8.pe_c c_is_between hr (by omega) (by rfl) (pa_cons (pv 5) (pa_cons pe_int (pa_cons (C8.pe_gc (by rfl) T.k_MOST_PUT) pa_nil))))))))))), body_of (n := 3) (fun ρ ds hl hp => ?_) h⟩
  obtain ⟨rfl, ok⟩ := hp
  try dsimp only [cxOf, Cx.nox, Cx.wish]
  apply ex_k
  · apply sj_ifs (k2 := 0) (PT := (· = false))
    · apply et_or (PA := (· = false)) (PB := (· = false))
      · exact (eb_not (eb_B (ed_cb (eda_cons (ed_var rfl) (eda_cons ed_opq eda_nil)) (cj_isi rfl (x := true) (by decide +kernel))))).mono (Nat.le_refl _) fun b e => e
      · intro _
        exact (eb_test (ed_op (ed_cb (eda_cons (ed_var rfl) eda_nil) (cj_lenT (ds := [.str st.1, .int st.2.1, .int st.2.2]))) ed_int rj_neI)).mono (Nat.le_refl _) fun b e => e
      · intro e; cases e
      · exact fun b _ e => e
    · intro e; cases e
    intro _
    apply sj_nexts
    apply sj_asg (L := [3, 4, 5]) (P := (· = statD st)) (δ' := fun _ => [some (.val (statD st)), some (.val (.str goal)), some (.val (.tup (ss.map statD))), some (.val (.str st.1)), some (.val (.int st.2.1)), some (.val (.int st.2.2)), none]) (k1 := 0)
    · exact ed_var rfl
    · rintro _ rfl
      exact gj_tup (gsj_cons gj_name (gsj_cons gj_name (gsj_cons gj_name gsj_nil))) rfl
    rintro _ rfl
    apply sj_ifs (k2 := 0) (PT := (· = false))
    · apply et_or (PA := (· = false)) (PB := (· = false))
      · refine (eb_not (eb_B (x := true) ?_)).mono (Nat.le_refl _) fun b e => e
        exact ej_call (PA := (· = [.str st.1])) (eda_cons (ed_var rfl) eda_nil) (fun ds e => ⟨by subst e; rfl, _, e, ok.nm⟩) (fun ds r e h => h)
      · intro _
        apply et_or (PA := (· = false)) (PB := (· = false))
        · exact (eb_test (ed_op (ed_var rfl) (ed_var rfl) rj_eqS)).mono (Nat.le_refl _) fun b e => by rw [e]; exact decide_eq_false ok.ng
        · intro _
          exact (eb_test (ed_op (ed_var rfl) (EN.ej (en_names (ed_var rfl) ok.len (show 6 < 7 by decide))) rj_inStr)).mono (Nat.le_refl _) fun b e => by rw [e]; exact decide_eq_false ok.nw
        · intro e; cases e
        · exact fun b _ e => e
      · intro e; cases e
      · exact fun b _ e => e
    · intro e; cases e
    intro _
    apply sj_nexts
    apply sj_retP (P := (· = .bl true))
    · exact ed_andV (x := true) (y := true) (ed_bet (ed_var rfl) ed_int ed_int ok.lv) fun _ => ed_bet (ed_var rfl) ed_int ed_int ok.pt
    rintro _ rfl
    exact .inl ⟨_, rfl, rfl⟩
  · decide
/-- what a link is behind others -/
structure LkOk (w : Int) (goal : Str) (ss : List Stn) (ls : List Lk) (l : Lk) : Prop where
  a : l.1 ∈ ss.map (·.1)
  b : l.2.1 ∈ goal :: ss.map (·.1)
  ne : l.1 ≠ l.2.1
  nw : (l.1, l.2.1) ∉ ls.map endsOf
  room : 1 ≤ l.2.2.1 ∧ l.2.2.1 ≤ 1000
  times : 0 ≤ l.2.2.2 ∧ l.2.2.2 ≤ w
  lt : okP (l.1, l.2.1)
  lts : ∀ p ∈ ls.map endsOf, okP p
  sl : ss.length ≤ 1000
  ll : ls.length ≤ 1000
abbrev spLink0 (K : PySem.W.Frag) (w : Int) (goal : Str) (ss : List Stn) (ls : List Lk) (l : Lk) : Sp := spJ K 5 (fun _ ds => ds = [linkD l, .int w, .str goal, .tup (ss.map statD), .tup (ls.map linkD)] ∧ LkOk w goal ss ls l) 0 (fun _ r => r = .bl true)
def spLink (K : PySem.W.Frag) : Sp := fun vs H Q E => ∃ w goal ss ls l, spLink0 K w goal ss ls l vs H Q E
theorem ok_link {f : Addr} {fd : FuncData} (F : Fun K "is_link" "is_link" s_is_link f fd) (T : Txv K mg) (c_is_between : C8.Cal P w K mg base 2 "is_between" (spBet K) []) : FnOk P w K mg base CX0 3 f fd ["value", "window", "goal", "stations", "links"] (spLink K) := by
  refine F.ok sc_is_link (fun vs H Q E h => by obtain ⟨_, _, _, _, _, h⟩ := h; exact spJ_len h) (fun cdv A outer s H vs Q E hr h => ?_)
  have h65 : (A.deeper (envOfC "is_link" (defScope s_is_link) s.heap.objs.size f cdv)).units + 65 < cLine := by have := hr.un; omega
  obtain ⟨wd, goal, ss, ls, l, h⟩ := h
  refine ⟨_, (pss_cons (ps_if (PW.pt (pw_or (pt_not (pt_val (pe_callB call_isi (by rfl) T.b_isinstance (by decide +kernel) (pa_cons (pv 0) (pa_cons (pe_bltn (v := .ty "tuple") (by rfl) T.b_tuple (by decide +kernel) rfl) pa_nil))))) (pw_or1 (pt_cmpR op_ne (pe_callB call_len_seq (by rfl) T.b_len (by decide +kernel) (pa_cons (pv 0) pa_nil)) pe_int (by first | exact nomark _ | rfl))))) (pss_one (ps_ret pe_bl)) pss_nil)
 (pss_cons (ps_asg (pv 0) (pg_tup rfl (pgs_cons (pg_name (i := 5) sc_is_link.nd rfl (by first | exact Or.inl rfl | exact Or.inr rfl)) (pgs_cons (pg_name (i := 6) sc_is_link.nd rfl (by first | exact Or.inl rfl | exact Or.inr rfl)) (pgs_cons (pg_name (i := 7) sc_is_link.nd rfl (by first | exact Or.inl rfl | exact Or.inr rfl)) (pgs_cons (pg_name (i := 8) sc_is_link.nd rfl (by first | exact Or.inl rfl | exact Or.inr rfl)) pgs_nil))))))
 (pss_cons (ps_setLc (i := 9) (own := [("station", 10)]) rfl sc_is_link.nd rfl rfl (sw_true rfl rfl rfl (by decide +kernel)) (pi_tup (pv 3)) (blkOk_by (N := ["value", "window", "goal", "stations", "links", "whence", "whither", "room", "times", "names", "station", "link"]) (sc := defScope s_is_link) (by decide +kernel)) (fun _ _ _ _ _ => (pg_name (i := 10) sc_is_link.nd rfl (by first | exact Or.inl rfl | exact Or.inr rfl))) (fun _ _ _ _ _ => pts_nil) (fun _ _ _ _ _ => (pe_ix (r := rIxT K) ix_tup (pv 10) pe_int (fun _ _ => rfl))))
 (pss_cons (ps_if (PW.pt (pw_or (pt_cmpR op_notIn_seq (pv 5) (pv 9) (by first | exact nomark _ | rfl)) (pw_or (pt_cmpR op_notIn_seq (pv 6) (pe_lst (pa_cons (pv 2) (StX.pa_star (pv 9) pa_nil))) (by first | exact nomark _ | rfl)) (pw_or1 (pt_cmpR op_eq (pv 5) (pv 6) (by first | exact nomark _ | rfl)))))) (pss_one (ps_ret pe_bl)) pss_nil)
 (pss_cons (ps_if (pt_cmpR (op_inD h65) (pe_tup (pa_cons (pv 5) (pa_cons (pv 6) pa_nil))) (pe_lc (own := [("link", 11)]) rfl sc_is_link.nd (pi_tup (pv 4)) (blkOk_by (N := ["value", "window", "goal", "stations", "links", "whence", "whither", "room", "times", "names", "station", "link"]) (sc := defScope s_is_link) (by decide +kernel)) (fun _ _ _ _ _ => (pg_name (i := 11) sc_is_link.nd rfl (by first | exact Or.inl rfl | exact Or.inr rfl))) (fun _ _ _ _ _ => pts_nil) (fun _ _ _ _ _ => (pe_slice (sl_tupK K rfl) (pv 11) po_none (po_some pe_int)))) (by first | exact nomark _ | rfl)) (pss_one (ps_ret pe_bl)) pss_nil)
 (pss_one (ps_ret (pe_and (C8.pe_c c_is_between hr (by omega) (by rfl) (pa_cons (pv 7) (pa_cons pe_int (pa_cons (C8.pe_gc (by rfl) T.k_MOST_ROOM) pa_nil)))) (pe_one (C8.pe_c c_is_between hr (by omega) (by rfl) (pa_cons (pv 8) (pa_cons pe_int (pa_cons (pv 1) pa_nil))))))))))))), body_of (n := 5) (fun ρ ds hl hp => ?_) h⟩
  obtain ⟨rfl, ok⟩ := hp
  try dsimp only [cxOf, Cx.nox, Cx.wish]
  apply ex_k
  · apply sj_ifs (k2 := 0) (PT := (· = false))
    · apply et_or (PA := (· = false)) (PB := (· = false))
      · exact (eb_not (eb_B (ed_cb (eda_cons (ed_var rfl) (eda_cons ed_opq eda_nil)) (cj_isi rfl (x := true) (by decide +kernel))))).mono (Nat.le_refl _) fun b e => e
      · intro _
        exact (eb_test (ed_op (ed_cb (eda_cons (ed_var rfl) eda_nil) (cj_lenT (ds := [.str l.1, .str l.2.1, .int l.2.2.1, .int l.2.2.2]))) ed_int rj_neI)).mono (Nat.le_refl _) fun b e => e
      · intro e; cases e
      · exact fun b _ e => e
    · intro e; cases e
    intro _
    apply sj_nexts
    apply sj_asg (L := [5, 6, 7, 8]) (P := (· = linkD l)) (δ' := fun _ => [some (.val (linkD l)), some (.val (.int wd)), some (.val (.str goal)), some (.val (.tup (ss.map statD))), some (.val (.tup (ls.map linkD))), some (.val (.str l.1)), some (.val (.str l.2.1)), some (.val (.int l.2.2.1)), some (.val (.int l.2.2.2)), none, none, none]) (k1 := 0)
    · exact ed_var rfl
    · rintro _ rfl
      exact gj_tup (gsj_cons gj_name (gsj_cons gj_name (gsj_cons gj_name (gsj_cons gj_name gsj_nil)))) rfl
    rintro _ rfl
    apply sj_set (P := (· = .lst ((ss.map (·.1)).map D.str)))
    · exact EN.ej (en_names (ed_var rfl) ok.sl (show 10 < 12 by decide))
    rintro _ rfl
    apply sj_ifs (k2 := 0) (PT := (· = false))
    · apply et_or (PA := (· = false)) (PB := (· = false))
      · refine (eb_test (ed_op (ed_var rfl) (ed_var rfl) rj_inStr)).mono (Nat.le_refl _) fun b e => ?_
        rw [e, decide_eq_true ok.a]
        rfl
      · intro _
        apply et_or (PA := (· = false)) (PB := (· = false))
        · refine (eb_test (ed_op (ed_var rfl) (EN.ej (en_lst (PA := (· = (goal :: ss.map (·.1)).map D.str)) (P := (· = .lst ((goal :: ss.map (·.1)).map D.str))) ?_ (fun ds e => ?_) fun ds e => by rw [e])) rj_inStr)).mono (Nat.le_refl _) fun b e => ?_
          · have e : (goal :: ss.map (·.1)).map D.str = D.str goal :: ((ss.map (·.1)).map D.str ++ []) := by rw [List.append_nil]; rfl
            rw [e]
            exact eda_cons (ed_var rfl) (eda_starL (ed_var rfl) eda_nil)
          · subst e
            rw [List.length_map, List.length_cons, List.length_map]
            have := ok.sl
            omega
          · rw [e, decide_eq_true ok.b]
            rfl
        · intro _
          exact (eb_test (ed_op (ed_var rfl) (ed_var rfl) rj_eqS)).mono (Nat.le_refl _) fun b e => by rw [e]; exact decide_eq_false ok.ne
        · intro e; cases e
        · exact fun b _ e => e
      · intro e; cases e
      · exact fun b _ e => e
    · intro e; cases e
    intro _
    apply sj_nexts
    apply sj_ifs (k2 := 0) (PT := (· = false))
    · refine (eb_test (ed_op (a := pairD (l.1, l.2.1)) (b := .lst ((ls.map endsOf).map pairD)) (ed_tup (eda_cons (ed_var rfl) (eda_cons (ed_var rfl) eda_nil)) (by show 2 ≤ 1000000; decide)) (EN.ej ?_) (rj_pairIn ok.lt ok.lts))).mono (Nat.le_refl _) fun b e => by rw [e]; exact decide_eq_false ok.nw
      refine (en_lcE (L := [11]) (ds := ls.map linkD) (p := fun _ => true) (f := fun d => match d with | .tup (x :: y :: _) => .tup [x, y] | _ => .non) (δt := fun d => (wipeD _ [11]).set 11 (some (.val d))) (ij_tup (ed_var rfl)) (fun i h => h) (by rw [List.length_map]; have := ok.ll; omega) (fun d _ => gj_name) (fun d _ => eb_yes) (fun d hd _ => ?_)).mono (Nat.le_refl _) fun r e => ?_
      · obtain ⟨l', hl', rfl⟩ := List.mem_map.mp hd
        exact ed_slT (ds := [.str l'.1, .str l'.2.1, .int l'.2.2.1, .int l'.2.2.2]) (lo := none) (hi := some 2) (ed_var (wipeD_set (show 11 < 12 by decide))) eo_none (eo_some ed_int) (show ¬ (HT.sIx 4 0 none = 0 ∧ HT.sIx 4 4 (some 2) = 4) by decide +kernel)
      · rw [e, filt_true, List.map_map, List.map_map]
        rfl
    · intro e; cases e
    intro _
    apply sj_nexts
    apply sj_retP (P := (· = .bl true))
    · exact ed_andV (x := true) (y := true) (ed_bet (ed_var rfl) ed_int ed_int ok.room) fun _ => ed_bet (ed_var rfl) ed_int (ed_var rfl) ok.times
    rintro _ rfl
    exact .inl ⟨_, rfl, rfl⟩
  · decide
end
end DN

namespace DN
open PySem PySem.Spec PyProof.Rows L2
variable [Tb]
abbrev s_read_head : Stmt := topS 33
theorem sc_read_head : FnScope ["lines", "word", "rest", "numbers", "number", "least", "most"] ["lines"] (defScope s_read_head) := ⟨rfl, rfl, rfl, by decide +kernel, rfl, by decide +kernel, by decide +kernel⟩
abbrev s_read_goal : Stmt := topS 34
theorem sc_read_goal : FnScope ["lines", "words"] ["lines"] (defScope s_read_goal) := ⟨rfl, rfl, rfl, by decide +kernel, rfl, by decide +kernel, by decide +kernel⟩
abbrev s_read_stations : Stmt := topS 35
theorem sc_read_stations : FnScope ["lines", "goal", "stations", "number", "line", "word", "rest", "station"] ["lines", "goal"] (defScope s_read_stations) := ⟨rfl, rfl, rfl, by decide +kernel, rfl, by decide +kernel, by decide +kernel⟩
abbrev s_read_links : Stmt := topS 36
theorem sc_read_links : FnScope ["lines", "window", "goal", "stations", "links", "ahead", "number", "line", "word", "rest", "link"] ["lines", "window", "goal", "stations"] (defScope s_read_links) := ⟨rfl, rfl, rfl, by decide +kernel, rfl, by decide +kernel, by decide +kernel⟩
/-! ### the text of a book, cut into its words -/
def noC (c : Nat) (z : Str) : Prop := c ∉ z.cps.toList
theorem noC_num {n : Int} {c : Nat} (h : smallI n) (hc : c < 48) : noC c (sI n) := fun hm => by
  obtain ⟨m, _, e, _⟩ := sI_nat h
  rw [e] at hm
  have := TL.numL_digits m c hm
  omega
theorem noC_let {z : Str} {c : Nat} (h : letters z) (hc : c < 97) : noC c z := fun hm => by
  have := h c hm
  omega
theorem join_mem {c : Nat} {S : Str} {ws : List Str} (h : c ∈ (Txt.join S ws).cps.toList) : c ∈ S.cps.toList ∨ ∃ w ∈ ws, c ∈ w.cps.toList := by
  have e : (Txt.join S ws).cps.toList = TL.joinL (TL.tl S) (ws.map TL.tl) := by
    rw [show (Txt.join S ws).cps.toList = TL.tl (Txt.join S ws) from rfl, TL.join_eq, TL.tl_join]
  rw [e] at h
  have key : ∀ (ps : List (List Nat)), c ∈ TL.joinL (TL.tl S) ps → c ∈ TL.tl S ∨ ∃ p ∈ ps, c ∈ p := by
    intro ps
    induction ps with
    | nil => intro h; cases h
    | cons p r ih =>
      intro h
      cases r with
      | nil => exact .inr ⟨p, List.mem_cons_self .., h⟩
      | cons q r =>
        have h : c ∈ p ++ (TL.tl S ++ TL.joinL (TL.tl S) (q :: r)) := h
        rw [List.mem_append, List.mem_append] at h
        rcases h with h | h | h
        · exact .inr ⟨p, List.mem_cons_self .., h⟩
        · exact .inl h
        · rcases ih h with h | ⟨p', hp, h⟩
          · exact .inl h
          · exact .inr ⟨p', List.mem_cons_of_mem _ hp, h⟩
  rcases key _ h with h | ⟨p, hp, h⟩
  · exact .inl h
  · obtain ⟨w, hw, rfl⟩ := List.mem_map.mp hp
    exact .inr ⟨w, hw, h⟩
theorem row_split {ws : List Str} (hne : ws ≠ []) (h : ∀ w ∈ ws, noC 32 w) : Txt.split (Txt.join " " ws) " " = ws :=
  TL.split_join (s := 32) (S := []) (by decide +kernel) (by decide +kernel) hne h
theorem rows_split {rs : List Str} (hne : rs ≠ []) (h : ∀ r ∈ rs, noC 10 r) : Txt.split (Txt.join "\n" rs) "\n" = rs :=
  TL.split_join (s := 10) (S := []) (by decide +kernel) (by decide +kernel) hne h
abbrev wsH (b : Bk) : List Str := ["net", sI b.window, sI b.margin, sI b.late]
abbrev wsG (b : Bk) : List Str := ["goal", b.goal]
abbrev wsS (s : Stn) : List Str := ["station", s.1, sI s.2.1, sI s.2.2]
abbrev wsL (l : Lk) : List Str := ["link", l.1, l.2.1, sI l.2.2.1, sI l.2.2.2]
theorem netRow_eq (b : Bk) : netRow b = Txt.join " " (wsH b) := by
  refine str_ext ?_
  rw [show (Txt.join " " (wsH b)).cps.toList = TL.tl (Txt.join " " (wsH b)) from rfl, TL.join_eq, TL.tl_join]
  unfold netRow
  simp only [str_app, List.map_cons, List.map_nil, TL.joinL, List.append_assoc]
  rw [show ("net " : Str).cps.toList = ("net" : Str).cps.toList ++ (" " : Str).cps.toList from by decide +kernel, List.append_assoc]
theorem goalRow_eq (b : Bk) : goalRow b = Txt.join " " (wsG b) := by
  refine str_ext ?_
  rw [show (Txt.join " " (wsG b)).cps.toList = TL.tl (Txt.join " " (wsG b)) from rfl, TL.join_eq, TL.tl_join]
  unfold goalRow
  simp only [str_app, List.map_cons, List.map_nil, TL.joinL, List.append_assoc]
  rw [show ("goal " : Str).cps.toList = ("goal" : Str).cps.toList ++ (" " : Str).cps.toList from by decide +kernel, List.append_assoc]
theorem stRow_eq (s : Stn) : stRow s = Txt.join " " (wsS s) := by
  refine str_ext ?_
  rw [show (Txt.join " " (wsS s)).cps.toList = TL.tl (Txt.join " " (wsS s)) from rfl, TL.join_eq, TL.tl_join]
  unfold stRow
  simp only [str_app, List.map_cons, List.map_nil, TL.joinL, List.append_assoc]
  rw [show ("station " : Str).cps.toList = ("station" : Str).cps.toList ++ (" " : Str).cps.toList from by decide +kernel, List.append_assoc]
/-- a book that can be read back -/
structure RdOk (b : Bk) : Prop where
  w : 1 ≤ b.window ∧ b.window ≤ 40
  m : 0 ≤ b.margin ∧ b.margin ≤ 10000000
  l : 0 ≤ b.late ∧ b.late ≤ 20
  goal : isN b.goal
  names : ∀ s ∈ b.stations, isN s.1
  nd : (b.stations.map (·.1)).Nodup
  ng : b.goal ∉ b.stations.map (·.1)
  lv : ∀ s ∈ b.stations, 0 ≤ s.2.1 ∧ s.2.1 ≤ 300000000
  pt : ∀ s ∈ b.stations, 0 ≤ s.2.2 ∧ s.2.2 ≤ 1000000
  n1 : 1 ≤ b.stations.length
  n2 : b.stations.length ≤ 20
  links : GoodLs (b.stations.map (·.1)) b.goal b.window b.links
  nl : b.links.length ≤ 60
section
variable {b : Bk}
theorem RdOk.sw (ok : RdOk b) : smallI b.window := by have := ok.w; exact ⟨by omega, by omega⟩
theorem RdOk.sm (ok : RdOk b) : smallI b.margin := by have := ok.m; exact ⟨by omega, by omega⟩
theorem RdOk.sl (ok : RdOk b) : smallI b.late := by have := ok.l; exact ⟨by omega, by omega⟩
theorem RdOk.slv (ok : RdOk b) {s : Stn} (h : s ∈ b.stations) : smallI s.2.1 := by have := ok.lv s h; exact ⟨by omega, by omega⟩
theorem RdOk.spt (ok : RdOk b) {s : Stn} (h : s ∈ b.stations) : smallI s.2.2 := by have := ok.pt s h; exact ⟨by omega, by omega⟩
theorem RdOk.srm (ok : RdOk b) {l : Lk} (h : l ∈ b.links) : smallI l.2.2.1 := by have := ok.links.room l h; exact ⟨by omega, by omega⟩
theorem RdOk.stm (ok : RdOk b) {l : Lk} (h : l ∈ b.links) : smallI l.2.2.2 := by have := ok.links.times l h; have := ok.w; exact ⟨by omega, by omega⟩
theorem RdOk.name (ok : RdOk b) {z : Str} (h : z ∈ b.goal :: b.stations.map (·.1)) : isN z := by
  rcases List.mem_cons.mp h with rfl | h
  · exact ok.goal
  · obtain ⟨s, hs, rfl⟩ := List.mem_map.mp h
    exact ok.names s hs
theorem RdOk.la (ok : RdOk b) {l : Lk} (h : l ∈ b.links) : l.1 ∈ b.stations.map (·.1) := ok.links.ends.a (endsOf l) (List.mem_map.mpr ⟨l, h, rfl⟩)
theorem RdOk.lb (ok : RdOk b) {l : Lk} (h : l ∈ b.links) : l.2.1 ∈ b.goal :: b.stations.map (·.1) := ok.links.ends.b (endsOf l) (List.mem_map.mpr ⟨l, h, rfl⟩)
theorem RdOk.cH (ok : RdOk b) {c : Nat} (hc : c < 48) : ∀ w ∈ wsH b, noC c w := by
  intro w hw
  simp only [List.mem_cons, List.not_mem_nil, or_false] at hw
  rcases hw with rfl | rfl | rfl | rfl
  · exact noC_let (by unfold letters; decide +kernel) (by omega)
  · exact noC_num ok.sw hc
  · exact noC_num ok.sm hc
  · exact noC_num ok.sl hc
theorem RdOk.cG (ok : RdOk b) {c : Nat} (hc : c < 48) : ∀ w ∈ wsG b, noC c w := by
  intro w hw
  simp only [List.mem_cons, List.not_mem_nil, or_false] at hw
  rcases hw with rfl | rfl
  · exact noC_let (by unfold letters; decide +kernel) (by omega)
  · exact noC_let ok.goal.lt (by omega)
theorem RdOk.cS (ok : RdOk b) {c : Nat} (hc : c < 48) {s : Stn} (h : s ∈ b.stations) : ∀ w ∈ wsS s, noC c w := by
  intro w hw
  simp only [List.mem_cons, List.not_mem_nil, or_false] at hw
  rcases hw with rfl | rfl | rfl | rfl
  · exact noC_let (by unfold letters; decide +kernel) (by omega)
  · exact noC_let (ok.names s h).lt (by omega)
  · exact noC_num (ok.slv h) hc
  · exact noC_num (ok.spt h) hc
theorem RdOk.cL (ok : RdOk b) {c : Nat} (hc : c < 48) {l : Lk} (h : l ∈ b.links) : ∀ w ∈ wsL l, noC c w := by
  intro w hw
  simp only [List.mem_cons, List.not_mem_nil, or_false] at hw
  rcases hw with rfl | rfl | rfl | rfl | rfl
  · exact noC_let (by unfold letters; decide +kernel) (by omega)
  · exact noC_let (ok.name (List.mem_cons_of_mem _ (ok.la h))).lt (by omega)
  · exact noC_let (ok.name (ok.lb h)).lt (by omega)
  · exact noC_num (ok.srm h) hc
  · exact noC_num (ok.stm h) hc
theorem RdOk.tx (ok : RdOk b) : TxOk b where
  w := ok.sw
  m := ok.sm
  l := ok.sl
  goal := by have := ok.goal.hi; omega
  st := fun s h => ⟨by have := (ok.names s h).hi; omega, ok.slv h, ok.spt h⟩
  lk := fun l h => ⟨by have := (ok.name (List.mem_cons_of_mem _ (ok.la h))).hi; omega, by have := (ok.name (ok.lb h)).hi; omega, ok.srm h, ok.stm h⟩
  ns := by have := ok.n2; omega
  nl := by have := ok.nl; omega
theorem RdOk.sH (ok : RdOk b) : Txt.split (netRow b) " " = wsH b := by rw [netRow_eq]; exact row_split (by simp) (ok.cH (by decide))
theorem RdOk.sG (ok : RdOk b) : Txt.split (goalRow b) " " = wsG b := by rw [goalRow_eq]; exact row_split (by simp) (ok.cG (by decide))
theorem RdOk.sS (ok : RdOk b) {s : Stn} (h : s ∈ b.stations) : Txt.split (stRow s) " " = wsS s := by rw [stRow_eq]; exact row_split (by simp) (ok.cS (by decide) h)
theorem RdOk.sL (ok : RdOk b) {l : Lk} (h : l ∈ b.links) : Txt.split (lkRow l) " " = wsL l := row_split (by simp) (ok.cL (by decide) h)
theorem RdOk.rows (ok : RdOk b) : Txt.split (bookText b) "\n" = bookRows b := by
  refine rows_split (by unfold bookRows; simp) fun r hr hm => ?_
  have key : ∀ ws : List Str, (∀ w ∈ ws, noC 10 w) → noC 10 (Txt.join " " ws) := fun ws h hm => by
    rcases join_mem hm with h' | ⟨w, hw, h'⟩
    · exact absurd h' (by decide +kernel)
    · exact h w hw h'
  unfold bookRows at hr
  rw [List.mem_append, List.mem_append] at hr
  rcases hr with (hr | hr) | hr
  · simp only [List.mem_cons, List.not_mem_nil, or_false] at hr
    rcases hr with rfl | rfl
    · rw [netRow_eq] at hm; exact key _ (ok.cH (by decide)) hm
    · rw [goalRow_eq] at hm; exact key _ (ok.cG (by decide)) hm
  · obtain ⟨s, hs, rfl⟩ := List.mem_map.mp hr
    rw [stRow_eq] at hm; exact key _ (ok.cS (by decide) hs) hm
  · obtain ⟨l, hl, rfl⟩ := List.mem_map.mp hr
    exact key _ (ok.cL (by decide) hl) hm
theorem RdOk.rowLe (ok : RdOk b) {r : Str} (h : r ∈ bookRows b) : r.length ≤ 1000000 := by
  have := rows_le ok.tx r h
  omega
end
abbrev headD : D := .tup [.tup [.int 1, .int 40], .tup [.int 0, .int 10000000], .tup [.int 0, .int 20]]
structure Txr (K : PySem.W.Frag) (mg : Str → Option Value) (aH : Addr) : Prop extends Txv K mg where
  k_HEAD : ∃ u, mg "HEAD" = some u ∧ RelV (.ref aH) u
  st : ∀ G, At K G (.ref aH) headD
section
variable {P : Program} {w : World} {K : PySem.W.Frag} {mg : Str → Option Value} {base : Heap} {aH : Addr}
/-- a row of the text, cut into words -/
theorem ed_rowSplit {ρ : Rh} {δ : Dl} {te : TE} {r : Str} {ws : List Str} (h : ED ρ K te δ (.str r)) (hl : r.length ≤ 1000000) (e : Txt.split r " " = ws) : ED ρ K (tBM K "str" rSplit te (tCons (tC (.str " ")) tNil)) δ (.lst (ws.map D.str)) :=
  (EN.ej (en_split h (by decide +kernel) hl)).mono (Nat.le_refl _) fun d h => by rw [h, e]
theorem ed_vals {ρ : Rh} {δ : Dl} {ta tb : TE} {E : XK} {ws : List Str} {ns : List Int} {k : Int} (ha : ED ρ K ta δ (.lst ((ws ++ ns.map sI).map D.str))) (hb : ED ρ K tb δ (.int k)) (hk : k = (ws.length : Nat)) (hn : ∀ n ∈ ns, smallI n) (hl : ws.length + ns.length ≤ 1000) :
    ED ρ K (tCall (spVals K) [] E (tCons ta (tCons tb tNil))) δ (.tup (ws.map D.str ++ ns.map D.int)) := by
  subst hk
  exact ej_callS (n := 2) (PA := (· = [.lst ((ws ++ ns.map sI).map D.str), .int (ws.length : Nat)])) (eda_cons ha (eda_cons hb eda_nil)) (fun vs H Q (h : spVals0 K ws ns vs H Q E) => ⟨ws, ns, h⟩) (fun ds e => ⟨by subst e; rfl, e, hn, hl⟩) (fun ds d e h => h)
abbrev spHead0 (K : PySem.W.Frag) (b : Bk) : Sp := spJ K 1 (fun _ ds => ds = [.lst ((bookRows b).map D.str)] ∧ RdOk b) 0 (fun _ r => r = .tup [.int b.window, .int b.margin, .int b.late])
def spHead (K : PySem.W.Frag) : Sp := fun vs H Q E => ∃ b, spHead0 K b vs H Q E
theorem ok_head {f : Addr} {fd : FuncData} (F : Fun K "read_head" "read_head" s_read_head f fd) (T : Txr K mg aH) (c_values_of : C8.Cal P w K mg base 2 "values_of" (spVals K) []) (c_is_between : C8.Cal P w K mg base 2 "is_between" (spBet K) []) : FnOk P w K mg base CX0 3 f fd ["lines"] (spHead K) := by
  refine F.ok sc_read_head (fun vs H Q E h => by obtain ⟨_, h⟩ := h; exact spJ_len h) (fun cdv A outer s H vs Q E hr h => ?_)
  obtain ⟨b, h⟩ := h
  refine ⟨_, (pss_cons (ps_asg (pe_bm PySem.F.plainAttrs_str PySem.F.slot_str_split PySem.F.type_str_split mt_split (pe_ix ix_list (pv 0) pe_int (fun _ _ => rfl)) (pa_cons pe_str pa_nil)) (pg_star rfl (pgs_cons (pg_name (i := 1) sc_read_head.nd rfl (by first | exact Or.inl rfl | exact Or.inr rfl)) (pgs_cons (pg_name (i := 2) sc_read_head.nd rfl (by first | exact Or.inl rfl | exact Or.inr rfl)) pgs_nil))))
 (pss_cons (ps_set (i := 3) sc_read_head.nd rfl (by first | exact Or.inl rfl | exact Or.inr rfl) (C8.pe_c c_values_of hr (by omega) (by rfl) (pa_cons (pv 2) (pa_cons pe_int pa_nil))))
 (pss_cons (ps_if (PW.pt (pw_or (pt_cmpR op_ne (pv 1) pe_str (by first | exact nomark _ | rfl)) (pw_or1 (pt_cmpR op_ne (pe_callB call_len_seq (by rfl) T.b_len (by decide +kernel) (pa_cons (pv 3) pa_nil)) (pe_callB call_len_seq (by rfl) T.b_len (by decide +kernel) (pa_cons (C8.pe_gc (by rfl) T.k_HEAD) pa_nil)) (by first | exact nomark _ | rfl))))) (pss_one ps_never) pss_nil)
 (pss_cons (ps_if (pt_not (pt_val (pe_callB (cr_all (by rfl)) (by rfl) T.b_all (by decide +kernel) (pa_cons (pe_lc (own := [("number", 4), ("least", 5), ("most", 6)]) (g := (gTup K 2 (gCons (gName 4) (gCons (gTup K 2 (gCons (gName 5) (gCons (gName 6) gNil))) gNil)))) rfl sc_read_head.nd (RZ.pi_zipA (by rfl) T.b_zip (pa_cons (pv 3) (pa_cons (C8.pe_gc (by rfl) T.k_HEAD) pa_nil))) (blkOk_by (N := ["lines", "word", "rest", "numbers", "number", "least", "most"]) (sc := defScope s_read_head) (by decide +kernel)) (fun _ _ _ _ _ => (pg_tup rfl (pgs_cons (pg_name (i := 4) sc_read_head.nd rfl (by first | exact Or.inl rfl | exact Or.inr rfl)) (pgs_cons (pg_tup rfl (pgs_cons (pg_name (i := 5) sc_read_head.nd rfl (by first | exact Or.inl rfl | exact Or.inr rfl)) (pgs_cons (pg_name (i := 6) sc_read_head.nd rfl (by first | exact Or.inl rfl | exact Or.inr rfl)) pgs_nil))) pgs_nil)))) (fun _ _ _ _ _ => pts_nil) (fun _ _ _ _ _ => (C8.pe_c c_is_between hr (by omega) (by rfl) (pa_cons (pv 4) (pa_cons (pv 5) (pa_cons (pv 6) pa_nil)))))) pa_nil)))) (pss_one ps_never) pss_nil)
 (pss_one (ps_ret (pv 3))))))), body_of (n := 1) (fun ρ ds hl hp => ?_) h⟩
  obtain ⟨rfl, ok⟩ := hp
  try dsimp only [cxOf, Cx.nox, Cx.wish]
  apply ex_k
  · apply sj_star (x := .str "net") (xs := [.str (sI b.window), .str (sI b.margin), .str (sI b.late)])
    · exact ed_rowSplit (ws := wsH b) (ed_op (ed_var rfl) ed_int (rj_ixL (d := .str (netRow b)) (atI_nat (j := 0) rfl))) (ok.rowLe (by unfold bookRows; simp)) ok.sH
    apply sj_set (P := (· = .tup [.int b.window, .int b.margin, .int b.late]))
    · exact ed_vals (ws := []) (ns := [b.window, b.margin, b.late]) (ed_var rfl) ed_int rfl (by
        intro n hn
        simp only [List.mem_cons, List.not_mem_nil, or_false] at hn
        rcases hn with rfl | rfl | rfl
        · exact ok.sw
        · exact ok.sm
        · exact ok.sl) (by show 0 + 3 ≤ 1000; decide)
    rintro _ rfl
    apply sj_ifs (k2 := 0) (PT := (· = false))
    · apply et_or (PA := (· = false)) (PB := (· = false))
      · exact (eb_test (ed_op (ed_var rfl) ed_str rj_neS)).mono (Nat.le_refl _) fun b e => by rw [e]; decide +kernel
      · intro _
        exact (eb_test (ed_op (ed_cb (eda_cons (ed_var rfl) eda_nil) (cj_lenT (ds := [.int b.window, .int b.margin, .int b.late]))) (ed_cb (eda_cons (ed_c T.st) eda_nil) (cj_lenT (ds := [.tup [.int 1, .int 40], .tup [.int 0, .int 10000000], .tup [.int 0, .int 20]]))) rj_neI)).mono (Nat.le_refl _) fun b e => e
      · intro e; cases e
      · exact fun b _ e => e
    · intro e; cases e
    intro _
    apply sj_nexts
    apply sj_ifs (k2 := 0) (PT := (· = false))
    · refine (eb_not (eb_B (x := true) ?_)).mono (Nat.le_refl _) fun b e => e
      refine ed_cb (c := .bl ([true, true, true].all id)) (eda_cons (EN.ej ?_) eda_nil) (cj_all (bs := [true, true, true]))
      refine (en_lcE (L := [4, 5, 6]) (ds := [.tup [.int b.window, .tup [.int 1, .int 40]], .tup [.int b.margin, .tup [.int 0, .int 10000000]], .tup [.int b.late, .tup [.int 0, .int 20]]]) (p := fun _ => true) (f := fun _ => .bl true)
        (δt := fun d => match d with | .tup [x, .tup [y, z]] => (((wipeD [some (.val (.lst ((bookRows b).map D.str))), some (.val (.str "net")), some (.val (.lst [.str (sI b.window), .str (sI b.margin), .str (sI b.late)])), some (.val (.tup [.int b.window, .int b.margin, .int b.late])), none, none, none] [4, 5, 6]).set 4 (some (.val x))).set 5 (some (.val y))).set 6 (some (.val z)) | _ => [])
        (ij_zipT (ds := [.int b.window, .int b.margin, .int b.late]) (es := [.tup [.int 1, .int 40], .tup [.int 0, .int 10000000], .tup [.int 0, .int 20]]) (eda_cons (ed_var rfl) (eda_cons (ed_c T.st) eda_nil))) (fun i h => h) (by show 3 ≤ 1000000; decide) (fun d hd => ?_) (fun d _ => eb_yes) (fun d hd _ => ?_)).mono (Nat.le_refl _) fun r e => e
      · simp only [List.mem_cons, List.not_mem_nil, or_false] at hd
        rcases hd with rfl | rfl | rfl <;> exact gj_tup (gsj_cons gj_name (gsj_cons (gj_tup (gsj_cons gj_name (gsj_cons gj_name gsj_nil)) rfl) gsj_nil)) rfl
      · simp only [List.mem_cons, List.not_mem_nil, or_false] at hd
        rcases hd with rfl | rfl | rfl
        · exact ed_bet (ed_var rfl) (ed_var rfl) (ed_var rfl) ok.w
        · exact ed_bet (ed_var rfl) (ed_var rfl) (ed_var rfl) ok.m
        · exact ed_bet (ed_var rfl) (ed_var rfl) (ed_var rfl) ok.l
    · intro e; cases e
    intro _
    apply sj_nexts
    apply sj_retP (P := (· = .tup [.int b.window, .int b.margin, .int b.late])) (ed_var rfl)
    rintro _ rfl
    exact .inl ⟨_, rfl, rfl⟩
  · decide
abbrev spGoal0 (K : PySem.W.Frag) (b : Bk) : Sp := spJ K 1 (fun _ ds => ds = [.lst ((bookRows b).map D.str)] ∧ RdOk b) 0 (fun _ r => r = .str b.goal)
def spGoal (K : PySem.W.Frag) : Sp := fun vs H Q E => ∃ b, spGoal0 K b vs H Q E
theorem ok_goal {f : Addr} {fd : FuncData} (F : Fun K "read_goal" "read_goal" s_read_goal f fd) (T : Txr K mg aH) (c_is_name : C8.Cal P w K mg base 1 "is_name" (spName K) []) : FnOk P w K mg base CX0 2 f fd ["lines"] (spGoal K) := by
  refine F.ok sc_read_goal (fun vs H Q E h => by obtain ⟨_, h⟩ := h; exact spJ_len h) (fun cdv A outer s H vs Q E hr h => ?_)
  obtain ⟨b, h⟩ := h
  refine ⟨_, (pss_cons (ps_set (i := 1) sc_read_goal.nd rfl (by first | exact Or.inl rfl | exact Or.inr rfl) (pe_ifExp (pt_cmpR op_gt (pe_callB call_len_seq (by rfl) T.b_len (by decide +kernel) (pa_cons (pv 0) pa_nil)) pe_int (by first | exact nomark _ | rfl)) (pe_bm PySem.F.plainAttrs_str PySem.F.slot_str_split PySem.F.type_str_split mt_split (pe_ix ix_list (pv 0) pe_int (fun _ _ => rfl)) (pa_cons pe_str pa_nil)) (pe_lst pa_nil)))
 (pss_cons (ps_if (PW.pt (pw_or (pt_cmpR op_ne (pe_callB call_len_seq (by rfl) T.b_len (by decide +kernel) (pa_cons (pv 1) pa_nil)) pe_int (by first | exact nomark _ | rfl)) (pw_or (pt_cmpR op_ne (pe_ix ix_list (pv 1) pe_int (fun _ _ => rfl)) pe_str (by first | exact nomark _ | rfl)) (pw_or1 (pt_not (pt_val (C8.pe_c c_is_name hr (by omega) (by rfl) (pa_cons (pe_ix ix_list (pv 1) pe_int (fun _ _ => rfl)) pa_nil)))))))) (pss_one ps_never) pss_nil)
 (pss_one (ps_ret (pe_ix ix_list (pv 1) pe_int (fun _ _ => rfl)))))), body_of (n := 1) (fun ρ ds hl hp => ?_) h⟩
  obtain ⟨rfl, ok⟩ := hp
  try dsimp only [cxOf, Cx.nox, Cx.wish]
  apply ex_k
  · apply sj_set (P := (· = .lst ((wsG b).map D.str)))
    · refine ed_if (x := true) (b := .non) ?_ (fun _ => ed_rowSplit (ed_op (ed_var rfl) ed_int (rj_ixL (d := .str (goalRow b)) (atI_nat (j := 1) rfl))) (ok.rowLe (by unfold bookRows; simp)) ok.sG) (fun e => nomatch e)
      refine (eb_test (ed_op (ed_cb (eda_cons (ed_var rfl) eda_nil) (cj_len (ds := (bookRows b).map D.str))) ed_int rj_B0)).mono (Nat.le_refl _) fun x e => ?_
      rw [e]
      refine decide_eq_true ?_
      unfold bookRows
      simp only [List.length_map, List.length_append, List.length_cons, List.length_nil]
      omega
    rintro _ rfl
    apply sj_ifs (k2 := 0) (PT := (· = false))
    · apply et_or (PA := (· = false)) (PB := (· = false))
      · exact (eb_test (ed_op (ed_cb (eda_cons (ed_var rfl) eda_nil) (cj_len (ds := [.str "goal", .str b.goal]))) ed_int rj_neI)).mono (Nat.le_refl _) fun b e => e
      · intro _
        apply et_or (PA := (· = false)) (PB := (· = false))
        · exact (eb_test (ed_op (ed_op (ed_var rfl) ed_int (rj_ixL (d := .str "goal") rfl)) ed_str rj_neS)).mono (Nat.le_refl _) fun b e => by rw [e]; decide +kernel
        · intro _
          refine (eb_not (eb_B (x := true) ?_)).mono (Nat.le_refl _) fun b e => e
          exact ej_call (PA := (· = [.str b.goal])) (eda_cons (ed_op (ed_var rfl) ed_int (rj_ixL (d := .str b.goal) rfl)) eda_nil) (fun ds e => ⟨by subst e; rfl, _, e, ok.goal⟩) (fun ds r e h => h)
        · intro e; cases e
        · exact fun b _ e => e
      · intro e; cases e
      · exact fun b _ e => e
    · intro e; cases e
    intro _
    apply sj_nexts
    apply sj_retP (P := (· = .str b.goal)) (ed_op (ed_var rfl) ed_int (rj_ixL (d := .str b.goal) rfl))
    rintro _ rfl
    exact .inl ⟨_, rfl, rfl⟩
  · decide
end
end DN

namespace DN
open PySem PySem.Spec PyProof.Rows L2
variable [Tb]
section
variable {ρ : Rh} {K : PySem.W.Frag} {E : XK} {δ δ' : Dl} {PO : Out → Prop}
theorem sj_breakW (h : Fewer δ' δ) (hp : PO (.bk δ')) : SJ ρ K E tBreak δ 0 PO := .mk fun G0 H0 G H σ m D w hm q => q _ hp G H σ m (w.fewer h.len h.get) (Nat.le_refl _)
end
theorem take_map_snoc {α : Type} {f : α → D} {l : List α} {i : Nat} {x : α} (h : l[i]? = some x) : (l.take (i + 1)).map f = (l.take i).map f ++ [f x] := by
  rw [take_snoc h, List.map_append]
  rfl
theorem nodup_take {l : List Stn} {i : Nat} {s : Stn} (h : (l.map (·.1)).Nodup) (e : l[i]? = some s) : s.1 ∉ (l.take i).map (·.1) := by
  intro hm
  rw [List.map_take] at hm
  obtain ⟨j, hj, e2⟩ := List.getElem_of_mem hm
  rw [List.length_take, List.length_map] at hj
  have hi : i < l.length := (List.getElem?_eq_some_iff.mp e).1
  have h1 : (l.map (·.1))[j]? = some s.1 := by
    rw [List.getElem_take] at e2
    rw [List.getElem?_eq_getElem (by rw [List.length_map]; omega), e2]
  have h2 : (l.map (·.1))[i]? = some s.1 := by rw [List.getElem?_map, e]; rfl
  have := (List.getElem?_inj (by rw [List.length_map]; omega) h).mp (h1.trans h2.symm)
  omega
section
variable {P : Program} {w : World} {K : PySem.W.Frag} {mg : Str → Option Value} {base : Heap} {aH : Addr}
abbrev spStats0 (K : PySem.W.Frag) (b : Bk) : Sp := spJ K 2 (fun _ ds => ds = [.lst ((bookRows b).map D.str), .str b.goal] ∧ RdOk b) 0 (fun _ r => r = .tup (b.stations.map statD))
def spStats (K : PySem.W.Frag) : Sp := fun vs H Q E => ∃ b, spStats0 K b vs H Q E
theorem ok_stations {f : Addr} {fd : FuncData} (F : Fun K "read_stations" "read_stations" s_read_stations f fd) (T : Txr K mg aH) (c_values_of : C8.Cal P w K mg base 2 "values_of" (spVals K) []) (c_is_station : C8.Cal P w K mg base 3 "is_station" (spStat K) []) : FnOk P w K mg base CX0 4 f fd ["lines", "goal"] (spStats K) := by
  refine F.ok sc_read_stations (fun vs H Q E h => by obtain ⟨_, h⟩ := h; exact spJ_len h) (fun cdv A outer s H vs Q E hr h => ?_)
  obtain ⟨b, h⟩ := h
  refine ⟨_, (pss_cons (ps_set (i := 2) sc_read_stations.nd rfl (by first | exact Or.inl rfl | exact Or.inr rfl) (pe_tup pa_nil))
 (pss_cons (ps_for PassesOwn.never rfl (pi_enumS (by rfl) T.b_enumerate (pa_cons (pe_slice sl_list (pv 0) (po_some pe_int) po_none) pa_nil) pe_int) (pg_tup rfl (pgs_cons (pg_name (i := 3) sc_read_stations.nd rfl (by first | exact Or.inl rfl | exact Or.inr rfl)) (pgs_cons (pg_name (i := 4) sc_read_stations.nd rfl (by first | exact Or.inl rfl | exact Or.inr rfl)) pgs_nil)))
  (pss_cons (ps_asg (pe_bm PySem.F.plainAttrs_str PySem.F.slot_str_split PySem.F.type_str_split mt_split (pv 4) (pa_cons pe_str pa_nil)) (pg_star rfl (pgs_cons (pg_name (i := 5) sc_read_stations.nd rfl (by first | exact Or.inl rfl | exact Or.inr rfl)) (pgs_cons (pg_name (i := 6) sc_read_stations.nd rfl (by first | exact Or.inl rfl | exact Or.inr rfl)) pgs_nil))))
 (pss_cons (ps_if (pt_cmpR op_ne (pv 5) pe_str (by first | exact nomark _ | rfl)) (pss_one ps_break) pss_nil)
 (pss_cons (ps_set (i := 7) sc_read_stations.nd rfl (by first | exact Or.inl rfl | exact Or.inr rfl) (C8.pe_c c_values_of hr (by omega) (by rfl) (pa_cons (pv 6) (pa_cons pe_int pa_nil))))
 (pss_cons (ps_if (PW.pt (pw_or (pt_cmpR op_eq (pe_callB call_len_seq (by rfl) T.b_len (by decide +kernel) (pa_cons (pv 2) pa_nil)) (C8.pe_gc (by rfl) T.k_MOST_STATIONS) (by first | exact nomark _ | rfl)) (pw_or1 (pt_not (pt_val (C8.pe_c c_is_station hr (by omega) (by rfl) (pa_cons (pv 7) (pa_cons (pv 1) (pa_cons (pv 2) pa_nil))))))))) (pss_one ps_never) pss_nil)
 (pss_one (ps_set (i := 2) sc_read_stations.nd rfl (by first | exact Or.inl rfl | exact Or.inr rfl) (pe_tup (StX.pa_star (pv 2) (pa_cons (pv 7) pa_nil))))))))))
 (pss_cons (ps_if (pt_cmpR op_eq (pe_callB call_len_seq (by rfl) T.b_len (by decide +kernel) (pa_cons (pv 2) pa_nil)) pe_int (by first | exact nomark _ | rfl)) (pss_one ps_never) pss_nil)
 (pss_one (ps_ret (pv 2)))))), body_of (n := 2) (fun ρ ds hl hp => ?_) h⟩
  obtain ⟨rfl, ok⟩ := hp
  try dsimp only [cxOf, Cx.nox, Cx.wish]
  let L := (bookRows b).map D.str
  let dl : Nat → Dl := fun t => [some (.val (.lst L)), some (.val (.str b.goal)), some (.val (.tup ((b.stations.take t).map statD))), none, none, none, none, none]
  have n2 := ok.n2
  have nl := ok.nl
  have hrow : cutD L (some 2) none = (b.stations.map stRow ++ b.links.map lkRow).map D.str := by
    rw [cut_from (by decide)]
    show ((bookRows b).map D.str).drop 2 = _
    unfold bookRows
    rw [List.append_assoc, List.map_append]
    rfl
  have hlen : ((b.stations.map stRow ++ b.links.map lkRow).map D.str).length = b.stations.length + b.links.length := by simp
  apply ex_k
  · apply sj_set (P := (· = .tup []))
    · exact ed_tup eda_nil (by decide)
    rintro _ rfl
    apply sj_for (Inv := fun _ t δ' => t ≤ b.stations.length ∧ δ' = dl t) (Br := fun δ' => δ' = dl b.stations.length) (N := 100) (kb := 0) (k2 := 0)
    · exact ij_enumS (eda_cons (EN.ej ((en_sl (ed_var rfl) (eo_some ed_int) eo_none).mono (Nat.le_refl _) fun d e => by rw [e, hrow])) eda_nil) ed_int (by decide) (by decide)
    · rintro _ rfl
      rw [enumSD_len, hlen]; omega
    · rintro _ rfl
      exact ⟨Nat.zero_le _, rfl⟩
    · rintro _ t d _ rfl hd ⟨ht, rfl⟩
      obtain ⟨e, he, rfl⟩ := enumSD_get hd
      have htl : t < b.stations.length + b.links.length := by
        have := (List.getElem?_eq_some_iff.mp he).1
        rw [hlen] at this; exact this
      rw [List.getElem?_map] at he
      by_cases hlt : t < b.stations.length
      · have hst : b.stations[t]? = some b.stations[t] := List.getElem?_eq_getElem hlt
        generalize b.stations[t] = st at hst
        have hmem : st ∈ b.stations := List.mem_of_getElem? hst
        have hr2 : (b.stations.map stRow ++ b.links.map lkRow)[t]? = some (stRow st) := by
          rw [List.getElem?_append_left (by rw [List.length_map]; exact hlt), List.getElem?_map, hst]
          rfl
        rw [hr2] at he
        obtain rfl := Option.some.inj he
        have hin : stRow st ∈ bookRows b := by
          unfold bookRows
          exact List.mem_append_left _ (List.mem_append_right _ (List.mem_map.mpr ⟨st, hmem, rfl⟩))
        refine ⟨_, gj_tup (gsj_cons gj_name (gsj_cons gj_name gsj_nil)) rfl, ?_⟩
        apply sj_le
        · apply sj_star (x := .str "station") (xs := [.str st.1, .str (sI st.2.1), .str (sI st.2.2)])
          · exact ed_rowSplit (ws := wsS st) (ed_var rfl) (ok.rowLe hin) (ok.sS hmem)
          apply sj_ifs (k1 := 0) (k2 := 0) (PT := (· = false))
          · exact (eb_test (ed_op (ed_var rfl) ed_str rj_neS)).mono (Nat.le_refl _) fun b e => by rw [e]; decide +kernel
          · intro e; cases e
          intro _
          apply sj_nexts
          apply sj_set (P := (· = statD st))
          · exact ed_vals (ws := [st.1]) (ns := [st.2.1, st.2.2]) (ed_var rfl) ed_int rfl (by
              intro n hn
              simp only [List.mem_cons, List.not_mem_nil, or_false] at hn
              rcases hn with rfl | rfl
              · exact ok.slv hmem
              · exact ok.spt hmem) (by show 1 + 2 ≤ 1000; decide)
          rintro _ rfl
          apply sj_ifs (k1 := 0) (k2 := 0) (PT := (· = false))
          · apply et_or (k1 := 0) (k2 := 0) (PA := (· = false)) (PB := (· = false))
            · refine (eb_test (ed_op (ed_cb (eda_cons (ed_var rfl) eda_nil) (cj_lenT (ds := (b.stations.take t).map statD))) ed_int rj_eqI)).mono (Nat.le_refl _) fun b' e => ?_
              rw [e]
              refine decide_eq_false ?_
              rw [List.length_map, List.length_take]
              omega
            · intro _
              refine (eb_not (eb_B (x := true) ?_)).mono (Nat.le_refl _) fun b e => e
              exact ej_callS (n := 3) (PA := (· = [statD st, .str b.goal, .tup ((b.stations.take t).map statD)])) (eda_cons (ed_var rfl) (eda_cons (ed_var rfl) (eda_cons (ed_var rfl) eda_nil))) (fun vs H Q (h : spStat0 K b.goal (b.stations.take t) st vs H Q _) => ⟨_, _, _, h⟩)
                (fun ds e => ⟨by subst e; rfl, e, ok.names st hmem, fun z => ok.ng (by rw [← z]; exact List.mem_map.mpr ⟨st, hmem, rfl⟩), nodup_take ok.nd hst, ok.lv st hmem, ok.pt st hmem, by rw [List.length_take]; omega⟩) (fun ds d e h => h)
            · intro e; cases e
            · exact fun b _ e => e
          · intro e; cases e
          intro _
          apply sj_nexts
          apply sj_last
          apply sj_set (k1 := 0) (k2 := 0) (P := (· = .tup ((b.stations.take (t + 1)).map statD)))
          · rw [take_map_snoc hst]
            refine ed_tup (eda_starT (ed_var rfl) (eda_cons (ed_var rfl) eda_nil)) ?_
            rw [List.length_append, List.length_map, List.length_take]
            show _ + 1 ≤ _
            omega
          rintro _ rfl
          refine sj_nextW (δ' := dl (t + 1)) ?_ ⟨hlt, rfl⟩
          exact .keep (.keep (.keep (.drop (.drop (.drop (.drop (.drop .nil)))))))
        · decide
      · have htn : t = b.stations.length := by omega
        subst htn
        have h0 : 0 < b.links.length := by omega
        have hlk : b.links[0]? = some b.links[0] := List.getElem?_eq_getElem h0
        generalize b.links[0] = lk at hlk
        have hmem : lk ∈ b.links := List.mem_of_getElem? hlk
        have hr2 : (b.stations.map stRow ++ b.links.map lkRow)[b.stations.length]? = some (lkRow lk) := by
          rw [List.getElem?_append_right (by rw [List.length_map]; omega), List.length_map, Nat.sub_self, List.getElem?_map, hlk]
          rfl
        rw [hr2] at he
        obtain rfl := Option.some.inj he
        have hin : lkRow lk ∈ bookRows b := by
          unfold bookRows
          exact List.mem_append_right _ (List.mem_map.mpr ⟨lk, hmem, rfl⟩)
        refine ⟨_, gj_tup (gsj_cons gj_name (gsj_cons gj_name gsj_nil)) rfl, ?_⟩
        apply sj_le
        · apply sj_star (x := .str "link") (xs := [.str lk.1, .str lk.2.1, .str (sI lk.2.2.1), .str (sI lk.2.2.2)])
          · exact ed_rowSplit (ws := wsL lk) (ed_var rfl) (ok.rowLe hin) (ok.sL hmem)
          apply sj_ifs (k1 := 0) (k2 := 0) (k3 := 0) (PT := (· = true))
          · exact (eb_test (ed_op (ed_var rfl) ed_str rj_neS)).mono (Nat.le_refl _) fun b e => by rw [e]; decide +kernel
          · intro _
            refine sj_breakW (δ' := dl b.stations.length) ?_ rfl
            exact .keep (.keep (.keep (.drop (.drop (.drop (.drop (.drop .nil)))))))
          · intro e; cases e
        · decide
    · rintro _ δ' rfl hb
      have e : δ' = dl b.stations.length := by
        rcases hb with ⟨h1, h2⟩ | h
        · rw [h2]
          congr 1
          rw [enumSD_len, hlen] at h1 ⊢
          omega
        · exact h
      subst e
      apply sj_ifs (k1 := 0) (k2 := 0) (k3 := 0) (PT := (· = false))
      · refine (eb_test (ed_op (ed_cb (eda_cons (ed_var rfl) eda_nil) (cj_lenT (ds := (b.stations.take b.stations.length).map statD))) ed_int rj_eqI)).mono (Nat.le_refl _) fun b' e => ?_
        rw [e]
        refine decide_eq_false ?_
        rw [List.length_map, List.length_take]
        have := ok.n1
        omega
      · intro e; cases e
      intro _
      apply sj_nexts
      apply sj_retP (P := (· = .tup (b.stations.map statD)))
      · have : D.tup (b.stations.map statD) = .tup ((b.stations.take b.stations.length).map statD) := by rw [List.take_length]
        rw [this]
        exact ed_var rfl
      rintro _ rfl
      exact .inl ⟨_, rfl, rfl⟩
  · decide
theorem nodup_takeL {l : List Lk} {i : Nat} {s : Lk} (h : (l.map endsOf).Nodup) (e : l[i]? = some s) : endsOf s ∉ (l.take i).map endsOf := by
  intro hm
  rw [List.map_take] at hm
  obtain ⟨j, hj, e2⟩ := List.getElem_of_mem hm
  rw [List.length_take, List.length_map] at hj
  have hi : i < l.length := (List.getElem?_eq_some_iff.mp e).1
  have h1 : (l.map endsOf)[j]? = some (endsOf s) := by
    rw [List.getElem_take] at e2
    rw [List.getElem?_eq_getElem (by rw [List.length_map]; omega), e2]
  have h2 : (l.map endsOf)[i]? = some (endsOf s) := by rw [List.getElem?_map, e]; rfl
  have := (List.getElem?_inj (by rw [List.length_map]; omega) h).mp (h1.trans h2.symm)
  omega
abbrev spLks0 (K : PySem.W.Frag) (b : Bk) : Sp := spJ K 4 (fun _ ds => ds = [.lst ((bookRows b).map D.str), .int b.window, .str b.goal, .tup (b.stations.map statD)] ∧ RdOk b) 0 (fun _ r => r = .tup (b.links.map linkD))
def spLks (K : PySem.W.Frag) : Sp := fun vs H Q E => ∃ b, spLks0 K b vs H Q E
theorem ok_rlinks {f : Addr} {fd : FuncData} (F : Fun K "read_links" "read_links" s_read_links f fd) (T : Txr K mg aH) (c_values_of : C8.Cal P w K mg base 2 "values_of" (spVals K) []) (c_is_link : C8.Cal P w K mg base 3 "is_link" (spLink K) []) : FnOk P w K mg base CX0 4 f fd ["lines", "window", "goal", "stations"] (spLks K) := by
  refine F.ok sc_read_links (fun vs H Q E h => by obtain ⟨_, h⟩ := h; exact spJ_len h) (fun cdv A outer s H vs Q E hr h => ?_)
  obtain ⟨b, h⟩ := h
  refine ⟨_, (pss_cons (ps_set (i := 4) sc_read_links.nd rfl (by first | exact Or.inl rfl | exact Or.inr rfl) (pe_tup pa_nil))
 (pss_cons (ps_set (i := 5) sc_read_links.nd rfl (by first | exact Or.inl rfl | exact Or.inr rfl) (pe_op op_add pe_int (pe_callB call_len_seq (by rfl) T.b_len (by decide +kernel) (pa_cons (pv 3) pa_nil))))
 (pss_cons (ps_for PassesOwn.never rfl (pi_enumS (by rfl) T.b_enumerate (pa_cons (pe_slice sl_list (pv 0) (po_some (pv 5)) po_none) pa_nil) (pe_op op_add (pv 5) pe_int)) (pg_tup rfl (pgs_cons (pg_name (i := 6) sc_read_links.nd rfl (by first | exact Or.inl rfl | exact Or.inr rfl)) (pgs_cons (pg_name (i := 7) sc_read_links.nd rfl (by first | exact Or.inl rfl | exact Or.inr rfl)) pgs_nil)))
  (pss_cons (ps_asg (pe_bm PySem.F.plainAttrs_str PySem.F.slot_str_split PySem.F.type_str_split mt_split (pv 7) (pa_cons pe_str pa_nil)) (pg_star rfl (pgs_cons (pg_name (i := 8) sc_read_links.nd rfl (by first | exact Or.inl rfl | exact Or.inr rfl)) (pgs_cons (pg_name (i := 9) sc_read_links.nd rfl (by first | exact Or.inl rfl | exact Or.inr rfl)) pgs_nil))))
 (pss_cons (ps_set (i := 10) sc_read_links.nd rfl (by first | exact Or.inl rfl | exact Or.inr rfl) (C8.pe_c c_values_of hr (by omega) (by rfl) (pa_cons (pv 9) (pa_cons pe_int pa_nil))))
 (pss_cons (ps_if (PW.pt (pw_or (pt_cmpR op_ne (pv 8) pe_str (by first | exact nomark _ | rfl)) (pw_or (pt_cmpR op_eq (pe_callB call_len_seq (by rfl) T.b_len (by decide +kernel) (pa_cons (pv 4) pa_nil)) (C8.pe_gc (by rfl) T.k_MOST_LINKS) (by first | exact nomark _ | rfl)) (pw_or1 (pt_not (pt_val (C8.pe_c c_is_link hr (by omega) (by rfl) (pa_cons (pv 10) (pa_cons (pv 1) (pa_cons (pv 2) (pa_cons (pv 3) (pa_cons (pv 4) pa_nil)))))))))))) (pss_one ps_never) pss_nil)
 (pss_one (ps_set (i := 4) sc_read_links.nd rfl (by first | exact Or.inl rfl | exact Or.inr rfl) (pe_tup (StX.pa_star (pv 4) (pa_cons (pv 10) pa_nil)))))))))
 (pss_one (ps_ret (pv 4)))))), body_of (n := 4) (fun ρ ds hl hp => ?_) h⟩
  obtain ⟨rfl, ok⟩ := hp
  try dsimp only [cxOf, Cx.nox, Cx.wish]
  let L := (bookRows b).map D.str
  let a : Int := 2 + (b.stations.length : Nat)
  let dl : Nat → Dl := fun t => [some (.val (.lst L)), some (.val (.int b.window)), some (.val (.str b.goal)), some (.val (.tup (b.stations.map statD))), some (.val (.tup ((b.links.take t).map linkD))), some (.val (.int a)), none, none, none, none, none]
  have n2 := ok.n2
  have nl := ok.nl
  have hrow : cutD L (some a) none = (b.links.map lkRow).map D.str := by
    rw [cut_from (show 0 ≤ 2 + ((b.stations.length : Nat) : Int) by omega)]
    show ((bookRows b).map D.str).drop (2 + ((b.stations.length : Nat) : Int)).toNat = _
    unfold bookRows
    rw [show (2 + ((b.stations.length : Nat) : Int)).toNat = 2 + b.stations.length by omega, List.map_append]
    have e : (2 + b.stations.length) = (([netRow b, goalRow b] ++ b.stations.map stRow).map D.str).length := by simp; omega
    rw [e, List.drop_left]
  have hlen : ((b.links.map lkRow).map D.str).length = b.links.length := by simp
  apply ex_k
  · apply sj_set (P := (· = .tup []))
    · exact ed_tup eda_nil (by decide)
    rintro _ rfl
    apply sj_set (P := (· = .int a))
    · exact ed_op ed_int (ed_cb (eda_cons (ed_var rfl) eda_nil) (by
        have := cj_lenT (K := K) (ds := b.stations.map statD)
        rw [List.length_map] at this
        exact this)) rj_I0
    rintro _ rfl
    apply sj_for (Inv := fun _ t δ' => t ≤ b.links.length ∧ δ' = dl t) (Br := fun _ => False) (N := 60) (kb := 0) (k2 := 0)
    · exact ij_enumS (z := a + 1) (eda_cons (EN.ej ((en_sl (ed_var rfl) (eo_some (ed_var rfl)) eo_none).mono (Nat.le_refl _) fun d e => by rw [e, hrow])) eda_nil) (ed_op (ed_var rfl) ed_int rj_I0) (show -(2 ^ 63) ≤ 2 + ((b.stations.length : Nat) : Int) + 1 by omega) (show 2 + ((b.stations.length : Nat) : Int) + 1 < 2 ^ 63 by omega)
    · rintro _ rfl
      rw [enumSD_len, hlen]; omega
    · rintro _ rfl
      exact ⟨Nat.zero_le _, rfl⟩
    · rintro _ t d _ rfl hd ⟨ht, rfl⟩
      obtain ⟨e, he, rfl⟩ := enumSD_get hd
      have hlt : t < b.links.length := by
        have := (List.getElem?_eq_some_iff.mp he).1
        rw [hlen] at this; exact this
      have hlk : b.links[t]? = some b.links[t] := List.getElem?_eq_getElem hlt
      generalize b.links[t] = lk at hlk
      have hmem : lk ∈ b.links := List.mem_of_getElem? hlk
      rw [List.getElem?_map, List.getElem?_map, hlk] at he
      obtain rfl := Option.some.inj he
      have hin : lkRow lk ∈ bookRows b := by
        unfold bookRows
        exact List.mem_append_right _ (List.mem_map.mpr ⟨lk, hmem, rfl⟩)
      have hroom := ok.links.room lk hmem
      have hletA : letters lk.1 := (ok.name (List.mem_cons_of_mem _ (ok.la hmem))).lt
      have hletB : letters lk.2.1 := (ok.name (ok.lb hmem)).lt
      refine ⟨_, gj_tup (gsj_cons gj_name (gsj_cons gj_name gsj_nil)) rfl, ?_⟩
      apply sj_le
      · apply sj_star (x := .str "link") (xs := [.str lk.1, .str lk.2.1, .str (sI lk.2.2.1), .str (sI lk.2.2.2)])
        · exact ed_rowSplit (ws := wsL lk) (ed_var rfl) (ok.rowLe hin) (ok.sL hmem)
        apply sj_set (P := (· = linkD lk))
        · exact ed_vals (ws := [lk.1, lk.2.1]) (ns := [lk.2.2.1, lk.2.2.2]) (ed_var rfl) ed_int rfl (by
            intro n hn
            simp only [List.mem_cons, List.not_mem_nil, or_false] at hn
            rcases hn with rfl | rfl
            · exact ok.srm hmem
            · exact ok.stm hmem) (by show 2 + 2 ≤ 1000; decide)
        rintro _ rfl
        apply sj_ifs (k1 := 0) (k2 := 0) (PT := (· = false))
        · apply et_or (k1 := 0) (k2 := 0) (PA := (· = false)) (PB := (· = false))
          · exact (eb_test (ed_op (ed_var rfl) ed_str rj_neS)).mono (Nat.le_refl _) fun b e => by rw [e]; decide +kernel
          · intro _
            apply et_or (k1 := 0) (k2 := 0) (PA := (· = false)) (PB := (· = false))
            · refine (eb_test (ed_op (ed_cb (eda_cons (ed_var rfl) eda_nil) (cj_lenT (ds := (b.links.take t).map linkD))) ed_int rj_eqI)).mono (Nat.le_refl _) fun b' e => ?_
              rw [e]
              refine decide_eq_false ?_
              rw [List.length_map, List.length_take]
              omega
            · intro _
              refine (eb_not (eb_B (x := true) ?_)).mono (Nat.le_refl _) fun b e => e
              exact ej_callS (n := 5) (PA := (· = [linkD lk, .int b.window, .str b.goal, .tup (b.stations.map statD), .tup ((b.links.take t).map linkD)])) (eda_cons (ed_var rfl) (eda_cons (ed_var rfl) (eda_cons (ed_var rfl) (eda_cons (ed_var rfl) (eda_cons (ed_var rfl) eda_nil))))) (fun vs H Q (h : spLink0 K b.window b.goal b.stations (b.links.take t) lk vs H Q _) => ⟨_, _, _, _, _, h⟩)
                (fun ds e => ⟨by subst e; rfl, e, ok.la hmem, ok.lb hmem, ok.links.ends.ne (endsOf lk) (List.mem_map.mpr ⟨lk, hmem, rfl⟩), nodup_takeL ok.links.ends.nd hlk, by omega, ok.links.times lk hmem, ⟨hletA, hletB⟩, fun p hp => by
                  obtain ⟨l', hl', rfl⟩ := List.mem_map.mp hp
                  have hm' := List.mem_of_mem_take hl'
                  exact ⟨(ok.name (List.mem_cons_of_mem _ (ok.la hm'))).lt, (ok.name (ok.lb hm')).lt⟩, by omega, by rw [List.length_take]; omega⟩) (fun ds d e h => h)
            · intro e; cases e
            · exact fun b _ e => e
          · intro e; cases e
          · exact fun b _ e => e
        · intro e; cases e
        intro _
        apply sj_nexts
        apply sj_last
        apply sj_set (k1 := 0) (k2 := 0) (P := (· = .tup ((b.links.take (t + 1)).map linkD)))
        · rw [take_map_snoc hlk]
          refine ed_tup (eda_starT (ed_var rfl) (eda_cons (ed_var rfl) eda_nil)) ?_
          rw [List.length_append, List.length_map, List.length_take]
          show _ + 1 ≤ _
          omega
        rintro _ rfl
        refine sj_nextW (δ' := dl (t + 1)) ?_ ⟨hlt, rfl⟩
        exact .keep (.keep (.keep (.keep (.keep (.keep (.drop (.drop (.drop (.drop (.drop .nil))))))))))
      · decide
    · rintro _ δ' rfl hb
      have e : δ' = dl b.links.length := by
        rcases hb with ⟨h1, h2⟩ | h
        · rw [h2]
          congr 1
          rw [enumSD_len, hlen]
        · exact h.elim
      subst e
      apply sj_retP (P := (· = .tup (b.links.map linkD)))
      · have : D.tup (b.links.map linkD) = .tup ((b.links.take b.links.length).map linkD) := by rw [List.take_length]
        rw [this]
        exact ed_var rfl
      rintro _ rfl
      exact .inl ⟨_, rfl, rfl⟩
  · decide
end
end DN

namespace DN
open PySem PySem.Spec PyProof.Rows L2
variable [Tb]
abbrev s_Book___init__ : Stmt := inClass (topS 32) 0
theorem sc_Book___init__ : FnScope ["self", "text", "lines"] ["self", "text"] (defScope s_Book___init__) := ⟨rfl, rfl, rfl, by decide +kernel, rfl, by decide +kernel, by decide +kernel⟩
abbrev s_Book___len__ : Stmt := inClass (topS 32) 2
theorem sc_Book___len__ : FnScope ["self"] ["self"] (defScope s_Book___len__) := ⟨rfl, rfl, rfl, by decide +kernel, rfl, by decide +kernel, by decide +kernel⟩
def bookF (b : Bk) : List (Str × D) := [("text", .str (bookText b)), ("window", .int b.window), ("margin", .int b.margin), ("late", .int b.late), ("goal", .str b.goal), ("stations", .tup (b.stations.map statD)), ("links", .tup (b.links.map linkD))]
/-- what of the class Book is asked -/
structure BkC (K : PySem.W.Frag) (C : Addr) : Prop where
  cl : Cls K C
  n1 : NoAttr K C "text"
  n2 : NoAttr K C "window"
  n3 : NoAttr K C "margin"
  n4 : NoAttr K C "late"
  n5 : NoAttr K C "goal"
  n6 : NoAttr K C "stations"
  n7 : NoAttr K C "links"
section
variable {ρ : Rh} {K : PySem.W.Frag} {δ : Dl} {te : TE} {C : Addr} {b : Bk}
theorem ed_window (h : ED ρ K te δ (.ins C (bookF b))) (c : BkC K C) : ED ρ K (tFld K te "window") δ (.int b.window) := ed_fld h c.cl c.n2 rfl
theorem ed_margin (h : ED ρ K te δ (.ins C (bookF b))) (c : BkC K C) : ED ρ K (tFld K te "margin") δ (.int b.margin) := ed_fld h c.cl c.n3 rfl
theorem ed_late (h : ED ρ K te δ (.ins C (bookF b))) (c : BkC K C) : ED ρ K (tFld K te "late") δ (.int b.late) := ed_fld h c.cl c.n4 rfl
theorem ed_stations (h : ED ρ K te δ (.ins C (bookF b))) (c : BkC K C) : ED ρ K (tFld K te "stations") δ (.tup (b.stations.map statD)) := ed_fld h c.cl c.n6 rfl
theorem ed_links (h : ED ρ K te δ (.ins C (bookF b))) (c : BkC K C) : ED ρ K (tFld K te "links") δ (.tup (b.links.map linkD)) := ed_fld h c.cl c.n7 rfl
end
section
variable {P : Program} {w : World} {K : PySem.W.Frag} {mg : Str → Option Value} {base : Heap} {aH C : Addr}
abbrev spLen0 (K : PySem.W.Frag) (C : Addr) (b : Bk) : Sp := spJ K 1 (fun _ ds => ds = [.ins C (bookF b)]) 0 (fun _ r => r = .int (b.stations.length : Nat))
def spLenB (K : PySem.W.Frag) (C : Addr) : Sp := fun vs H Q E => ∃ b, spLen0 K C b vs H Q E
theorem ok_lenB {f : Addr} {fd : FuncData} (F : Fun K "__len__" "Book.__len__" s_Book___len__ f fd) (T : Txr K mg aH) (c : BkC K C) : FnOk P w K mg base CX0 1 f fd ["self"] (spLenB K C) := by
  refine F.ok sc_Book___len__ (fun vs H Q E h => by obtain ⟨_, h⟩ := h; exact spJ_len h) (fun cdv A outer s H vs Q E hr h => ?_)
  obtain ⟨b, h⟩ := h
  refine ⟨_, (pss_one (ps_ret (pe_callB call_len_seq (by rfl) T.b_len (by decide +kernel) (pa_cons (pe_fld (pv 0) rfl) pa_nil)))), body_of (n := 1) (fun ρ ds hl hp => ?_) h⟩
  subst hp
  try dsimp only [cxOf, Cx.nox, Cx.wish]
  apply ex_k
  · apply sj_retP (P := (· = .int (b.stations.length : Nat)))
    · have := cj_lenT (K := K) (ds := b.stations.map statD)
      rw [List.length_map] at this
      exact ed_cb (eda_cons (ed_stations (ed_var rfl) c) eda_nil) this
    rintro _ rfl
    exact .inl ⟨_, rfl, rfl⟩
  · decide
abbrev spMk0 (K : PySem.W.Frag) (C : Addr) (b : Bk) : Sp := spInitJ K C 1 0 (fun _ ds => ds = [.str (bookText b)] ∧ RdOk b) (fun _ fd => fd = bookF b)
def spMk (K : PySem.W.Frag) (C : Addr) : Sp := fun vs H Q E => ∃ b, spMk0 K C b vs H Q E
theorem text_len {b : Bk} (ok : RdOk b) : (bookText b).length ≤ 1000000 := by
  have h1 := sum_le (f := fun r => r.length) (rows_le ok.tx)
  have h2 : (bookRows b).length ≤ 402 := by
    unfold bookRows
    simp only [List.length_append, List.length_map]
    have := ok.n2
    have := ok.nl
    show 2 + b.stations.length + b.links.length ≤ 402
    omega
  have h3 : (bookRows b).length * 300 ≤ 402 * 300 := Nat.mul_le_mul_right _ h2
  have h4 : (bookRows b).length * ("\n" : Str).length ≤ 402 * 1 := Nat.mul_le_mul h2 (by decide)
  exact Nat.le_trans (join_len _ _) (by omega)
theorem put_ne {f g : Str} {d x : D} {r : List (Str × D)} (h : g ≠ f) : putFD f d ((g, x) :: r) = (g, x) :: putFD f d r := by
  show (if g = f then (g, d) :: r else (g, x) :: putFD f d r) = _
  rw [if_neg h]
theorem put_nil {f : Str} {d : D} : putFD f d [] = [(f, d)] := rfl
theorem put3 (t w m l : D) : putFD "late" l (putFD "margin" m (putFD "window" w [("text", t)])) = ([("text", t), ("window", w), ("margin", m), ("late", l)] : List (Str × D)) := by
  rw [show putFD "window" w [("text", t)] = ([("text", t), ("window", w)] : List (Str × D)) from by rw [put_ne (by decide +kernel), put_nil], show putFD "margin" m ([("text", t), ("window", w)] : List (Str × D)) = ([("text", t), ("window", w), ("margin", m)] : List (Str × D)) from by rw [put_ne (by decide +kernel), put_ne (by decide +kernel), put_nil], put_ne (by decide +kernel), put_ne (by decide +kernel), put_ne (by decide +kernel), put_nil]
theorem put4 (t w m l g : D) : putFD "goal" g ([("text", t), ("window", w), ("margin", m), ("late", l)] : List (Str × D)) = ([("text", t), ("window", w), ("margin", m), ("late", l), ("goal", g)] : List (Str × D)) := by
  rw [put_ne (by decide +kernel), put_ne (by decide +kernel), put_ne (by decide +kernel), put_ne (by decide +kernel), put_nil]
theorem put5 (t w m l g x : D) : putFD "stations" x ([("text", t), ("window", w), ("margin", m), ("late", l), ("goal", g)] : List (Str × D)) = ([("text", t), ("window", w), ("margin", m), ("late", l), ("goal", g), ("stations", x)] : List (Str × D)) := by
  rw [put_ne (by decide +kernel), put_ne (by decide +kernel), put_ne (by decide +kernel), put_ne (by decide +kernel), put_ne (by decide +kernel), put_nil]
theorem put6 (t w m l g x y : D) : putFD "links" y ([("text", t), ("window", w), ("margin", m), ("late", l), ("goal", g), ("stations", x)] : List (Str × D)) = ([("text", t), ("window", w), ("margin", m), ("late", l), ("goal", g), ("stations", x), ("links", y)] : List (Str × D)) := by
  rw [put_ne (by decide +kernel), put_ne (by decide +kernel), put_ne (by decide +kernel), put_ne (by decide +kernel), put_ne (by decide +kernel), put_ne (by decide +kernel), put_nil]
theorem tup_stats (l : List Stn) : tupO (.tup (l.map statD)) = true := by
  show tupOL (l.map statD) = true
  induction l with
  | nil => rfl
  | cons x r ih => simpa [tupOL, tupO, statD] using ih
theorem ok_init {f : Addr} {fd : FuncData} (F : Fun K "__init__" "Book.__init__" s_Book___init__ f fd) (T : Txr K mg aH) (c : BkC K C) (c_read_head : C8.Cal P w K mg base 3 "read_head" (spHead K) []) (c_read_goal : C8.Cal P w K mg base 2 "read_goal" (spGoal K) []) (c_read_stations : C8.Cal P w K mg base 4 "read_stations" (spStats K) []) (c_read_links : C8.Cal P w K mg base 4 "read_links" (spLks K) []) :
    FnOk P w K mg base CX0 5 f fd ["self", "text"] (spMk K C) := by
  refine F.ok sc_Book___init__ (fun vs H Q E h => by obtain ⟨_, h⟩ := h; exact spInitJ_len h) (fun cdv A outer s H vs Q E hr h => ?_)
  obtain ⟨b, h⟩ := h
  refine ⟨_, (pss_cons (ps_if (pt_not (pt_val (pe_callB call_isi (by rfl) T.b_isinstance (by decide +kernel) (pa_cons (pv 1) (pa_cons (pe_bltn (v := .ty "str") (by rfl) T.b_str (by decide +kernel) rfl) pa_nil))))) (pss_one ps_never) pss_nil)
 (pss_cons (ps_set (i := 2) sc_Book___init__.nd rfl (by first | exact Or.inl rfl | exact Or.inr rfl) (pe_bm PySem.F.plainAttrs_str PySem.F.slot_str_split PySem.F.type_str_split mt_split (pv 1) (pa_cons pe_str pa_nil)))
 (pss_cons (ps_fld (pv 0) (pv 1) rfl)
 (pss_cons (ps_asg (C8.pe_c c_read_head hr (by omega) (by rfl) (pa_cons (pv 2) pa_nil)) (pg_tup rfl (pgs_cons (pg_fld (pv 0)) (pgs_cons (pg_fld (pv 0)) (pgs_cons (pg_fld (pv 0)) pgs_nil)))))
 (pss_cons (ps_fld (pv 0) (C8.pe_c c_read_goal hr (by omega) (by rfl) (pa_cons (pv 2) pa_nil)) rfl)
 (pss_cons (ps_fld (pv 0) (C8.pe_c c_read_stations hr (by omega) (by rfl) (pa_cons (pv 2) (pa_cons (pe_fld (pv 0) rfl) pa_nil))) rfl)
 (pss_one (ps_fld (pv 0) (C8.pe_c c_read_links hr (by omega) (by rfl) (pa_cons (pv 2) (pa_cons (pe_fld (pv 0) rfl) (pa_cons (pe_fld (pv 0) rfl) (pa_cons (pe_fld (pv 0) rfl) pa_nil))))) rfl)))))))), init_of (n := 1) (fun ρ ds x hl hp => ?_) (by decide) h⟩
  obtain ⟨rfl, ok⟩ := hp
  try dsimp only [cxOf, Cx.nox, Cx.wish]
  have peek : ∀ {δ : Dl} {es : List (Str × D)} {f : Str} {d : D}, δ[0]? = some (some (.own (.ins C es))) → (δ.set 0 (some (.val (.ins C es))))[0]? = some (some (.val (.ins C es))) → es.lookup f = some d → NoAttr K C f → tupO d = true → ED ρ K (tFld K (tVar 0) f) δ d := fun {δ es f d} h h2 hl hn ht =>
    ej_peekT 0 h (ed_fld (ed_var h2) c.cl hn hl) fun x e => by rw [e]; exact ht
  refine ⟨0, Nat.le_refl _, ?_⟩
  apply si_ifF (k := 0)
  · exact (eb_not (eb_B (ed_cb (eda_cons (ed_var rfl) (eda_cons ed_opq eda_nil)) (cj_isi rfl (x := true) (by decide +kernel))))).mono (Nat.le_refl _) fun b e => e
  apply si_nexts
  apply si_set (k1 := 0) (k2 := 0) (P := (· = .lst ((bookRows b).map D.str))) (by decide)
  · exact (EN.ej (en_split (ed_var rfl) (by decide +kernel) (text_len ok))).mono (Nat.le_refl _) fun d h => by rw [h, ok.rows]
  rintro _ rfl
  apply si_fld (k1 := 0) (k2 := 0) (P := (· = .str (bookText b))) rfl (ed_var rfl) c.cl c.n1 (by decide)
  rintro _ rfl
  rw [put_nil]
  apply si_fld3 (k2 := 0) (x := .int b.window) (y := .int b.margin) (z := .int b.late) rfl rfl ?_ c.cl c.n2 c.n3 c.n4 (by show 1 < 900; decide)
  · rw [put3]
    apply si_fld (k1 := 0) (k2 := 0) (P := (· = .str b.goal)) rfl ?_ c.cl c.n5 (by show 4 < 1000; decide)
    · rintro _ rfl
      rw [put4]
      apply si_fld (k1 := 0) (k2 := 0) (P := (· = .tup (b.stations.map statD))) rfl ?_ c.cl c.n6 (by show 5 < 1000; decide)
      · rintro _ rfl
        rw [put5]
        apply si_last
        apply si_fld (k1 := 0) (k2 := 0) (P := (· = .tup (b.links.map linkD))) rfl ?_ c.cl c.n7 (by show 6 < 1000; decide)
        · rintro _ rfl
          rw [put6]
          exact si_next ⟨_, rfl, rfl⟩
        · exact ej_callS (n := 4) (PA := (· = [.lst ((bookRows b).map D.str), .int b.window, .str b.goal, .tup (b.stations.map statD)])) (eda_cons (ed_var rfl) (eda_cons (peek rfl rfl rfl c.n2 rfl) (eda_cons (peek rfl rfl rfl c.n5 rfl) (eda_cons (peek rfl rfl rfl c.n6 (tup_stats _)) eda_nil)))) (fun vs H Q (h : spLks0 K b vs H Q _) => ⟨b, h⟩) (fun ds e => ⟨by subst e; rfl, e, ok⟩) (fun ds d e h => h)
      · exact ej_callS (n := 2) (PA := (· = [.lst ((bookRows b).map D.str), .str b.goal])) (eda_cons (ed_var rfl) (eda_cons (peek rfl rfl rfl c.n5 rfl) eda_nil)) (fun vs H Q (h : spStats0 K b vs H Q _) => ⟨b, h⟩) (fun ds e => ⟨by subst e; rfl, e, ok⟩) (fun ds d e h => h)
    · exact ej_callS (n := 1) (PA := (· = [.lst ((bookRows b).map D.str)])) (eda_cons (ed_var rfl) eda_nil) (fun vs H Q (h : spGoal0 K b vs H Q _) => ⟨b, h⟩) (fun ds e => ⟨by subst e; rfl, e, ok⟩) (fun ds d e h => h)
  · exact ej_callS (n := 1) (PA := (· = [.lst ((bookRows b).map D.str)])) (eda_cons (ed_var rfl) eda_nil) (fun vs H Q (h : spHead0 K b vs H Q _) => ⟨b, h⟩) (fun ds e => ⟨by subst e; rfl, e, ok⟩) (fun ds d e h => h)
end
end DN

/-! weathers drawn: a row of puts, the ticks at which a link is open -/
namespace DN
open PySem PySem.Spec PyProof.Rows L2
variable [Tb]
abbrev s__law_put_row : Stmt := topS 54
theorem sc__law_put_row : FnScope ["pot", "put", "window", "way", "row", "left", "tick"] ["pot", "put", "window", "way"] (defScope s__law_put_row) := ⟨rfl, rfl, rfl, by decide +kernel, rfl, by decide +kernel, by decide +kernel⟩
abbrev s__law_open_ticks : Stmt := topS 55
theorem sc__law_open_ticks : FnScope ["pot", "often", "window", "way", "many"] ["pot", "often", "window", "way"] (defScope s__law_open_ticks) := ⟨rfl, rfl, rfl, by decide +kernel, rfl, by decide +kernel, by decide +kernel⟩
section
variable {ρ : Rh} {K : PySem.W.Frag} {E : XK} {δ : Dl} {te tb : TE} {u : TS} {k1 k2 k3 : Nat} {P : D → Prop} {PO : Out → Prop} {i : Nat}
theorem sj_setItemJ {ds : List D} (hi : δ[i]? = some (some (.own (.lst ds)))) (hv : EJ ρ K te δ k1 P) (hk : EJ ρ K tb δ k3 (fun d => ∃ n : Nat, d = .int (n : Int) ∧ n < ds.length)) (hn : ∀ d n, P d → n < ds.length → SJ ρ K E u (δ.set i (some (.own (.lst (ds.set n d))))) k2 PO) :
    SJ ρ K E (tSeq (tAsg te (gSub (tVar i) tb rSetL)) u) δ (k1 + (k3 + k2)) PO := .mk fun G0 H0 G H σ m D w hm q =>
  hv.run G0 H0 G H σ m _ w (by omega) fun d v G1 H1 m1 pd w1 g1 l1 av => by
    obtain ⟨v0, e1, p, o, rfl, hp, ha, hg', h0⟩ := w1.sl i _ hi
    refine ⟨_, e1, ?_⟩
    refine hk.run G0 H0 G1 H1 σ m1 _ w1 (by omega) fun e v2 G2 H2 m2 pe w2 g2 l2 a2 => ?_
    obtain ⟨n, rfl, hl⟩ := pe
    cases a2
    have nr : Fx ρ p := fun z => (w1.pot0 p z).1 h0
    cases ha with
    | @lst xs _ hx =>
      have hx' := hx.mono g2.gg
      refine ⟨p, xs, (n : Int), n, rfl, rfl, g2.keep _ _ nr hp, ixN_nat (by rw [hx'.len]; exact hl), ?_⟩
      exact (hn d n pd hl).run G0 H0 G2 _ σ m2 D (w2.chg hi e1 (.lst (AtL.set (av.mono g2.gg) n hx'))) (by omega) fun o po => (q o po).le (by omega)
end
theorem set_mid (xs : List Int) (x : Int) (k : Nat) : (xs ++ List.replicate (k + 1) 0).set xs.length x = (xs ++ [x]) ++ List.replicate k 0 := by
  rw [List.set_append_right _ _ (Nat.le_refl _), Nat.sub_self, List.replicate_succ, List.set_cons_zero, List.append_assoc]
  rfl
theorem sum_rep0 (k : Nat) : (List.replicate k (0 : Int)).sum = 0 := by
  induction k with
  | zero => rfl
  | succ k ih => rw [List.replicate_succ, List.sum_cons, ih]; rfl
theorem set_map (xs : List Int) (n : Nat) (x : Int) : (xs.map D.int).set n (.int x) = (xs.set n x).map D.int := by rw [List.map_set]
theorem sum_set0 : ∀ (n k : Nat) (x : Int), k < n → ((List.replicate n (0 : Int)).set k x).sum = x
  | 0, _, _, h => by omega
  | n + 1, 0, x, _ => by rw [List.replicate_succ, List.set_cons_zero, List.sum_cons, sum_rep0]; omega
  | n + 1, k + 1, x, h => by rw [List.replicate_succ, List.set_cons_succ, List.sum_cons, sum_set0 n k x (by omega)]; omega
theorem mem_set0 {n k : Nat} {x y : Int} (h : y ∈ (List.replicate n (0 : Int)).set k x) : y = 0 ∨ y = x := by
  rcases List.mem_or_eq_of_mem_set h with h | h
  · exact .inl (List.mem_replicate.mp h).2
  · exact .inr h
theorem range_at {n i : Nat} {d : D} (h : ((List.range n).map fun j => D.int (0 + (j : Nat)))[i]? = some d) : i < n ∧ d = .int (i : Nat) := by
  rw [List.getElem?_map] at h
  cases z : (List.range n)[i]? with
  | none => rw [z] at h; cases h
  | some j =>
    rw [z] at h
    obtain ⟨hi, e⟩ := List.getElem?_eq_some_iff.mp z
    rw [List.getElem_range] at e
    rw [List.length_range] at hi
    subst e
    exact ⟨hi, by
      have e := Option.some.inj h
      rw [← e]
      show D.int (0 + (i : Int)) = _
      rw [Int.zero_add]⟩
section
variable {P : Program} {w : World} {K : PySem.W.Frag} {mg : Str → Option Value} {base : Heap}
/-- a row of puts of a window -/
structure PutRow (n : Nat) (p : Int) (xs : List Int) : Prop where
  len : xs.length = n
  nn : ∀ x ∈ xs, 0 ≤ x
  sum : xs.sum ≤ p
def preRow (ρ : Rh) (ds : List D) : Prop := ∃ (a : Addr) (p : Int) (n : Nat) (way : Int), ds = [.opq (.ref a), .int p, .int (n : Nat), .int way] ∧ ρ = .some a ∧ 0 ≤ p ∧ p ≤ 100000000 ∧ 1 ≤ n ∧ n ≤ 40 ∧ 0 ≤ way ∧ way ≤ 4
def postRow (ds : List D) (d : D) : Prop := ∀ (a : V) (p : Int) (n : Nat) (way : Int), ds = [.opq a, .int p, .int (n : Nat), .int way] → ∃ xs : List Int, d = .lst (xs.map D.int) ∧ PutRow n p xs
abbrev spPutRow (K : PySem.W.Frag) : Sp := spJ K 4 preRow 100 postRow
theorem ok_putrow {f : Addr} {fd : FuncData} (F : Fun K "_law_put_row" "_law_put_row" s__law_put_row f fd) (T : Txt K mg) (c__law_take : C8.Cal P w K mg base 1 "_law_take" (spTake K) []) : FnOk P w K mg base CX0 2 f fd ["pot", "put", "window", "way"] (spPutRow K) := by
  refine F.ok sc__law_put_row (fun vs H Q E h => spJ_len h) (fun cdv A outer s H vs Q E hr h => ?_)
  refine ⟨_, (pss_cons (ps_setLc (i := 4) (own := [("tick", 6)]) rfl sc__law_put_row.nd rfl rfl (sw_true rfl rfl rfl (by decide +kernel)) (pi_range1 (by rfl) T.b_range (pa_cons (pv 2) pa_nil)) (blkOk_by (N := ["pot", "put", "window", "way", "row", "left", "tick"]) (sc := defScope s__law_put_row) (by decide +kernel)) (fun _ _ _ _ _ => (pg_name (i := 6) sc__law_put_row.nd rfl (by first | exact Or.inl rfl | exact Or.inr rfl))) (fun _ _ _ _ _ => pts_nil) (fun _ _ _ _ _ => pe_int))
 (pss_cons (ps_if (pt_cmpR op_lt (pv 3) pe_int (by first | exact nomark _ | rfl)) (pss_cons (ps_asg (pv 1) (pg_sub (pv 4) (pe_ix ix_list (pe_lst (pa_cons pe_int (pa_cons (pe_op op_sub (pv 2) pe_int) (pa_cons (C8.pe_c c__law_take hr (by omega) (by rfl) (pa_cons (pv 0) (pa_cons (pv 2) pa_nil))) pa_nil)))) (pv 3) (fun _ _ => rfl)) set_list))
 (pss_one (ps_ret (pv 4)))) pss_nil)
 (pss_cons (ps_set (i := 5) sc__law_put_row.nd rfl (by first | exact Or.inl rfl | exact Or.inr rfl) (pe_ifExp (pt_cmpR op_eq (pv 3) pe_int (by first | exact nomark _ | rfl)) (pv 1) (C8.pe_c c__law_take hr (by omega) (by rfl) (pa_cons (pv 0) (pa_cons (pe_op op_add (pv 1) pe_int) pa_nil)))))
 (pss_cons (ps_for PassesOwn.never rfl (pi_range1 (by rfl) T.b_range (pa_cons (pv 2) pa_nil)) (pg_name (i := 6) sc__law_put_row.nd rfl (by first | exact Or.inl rfl | exact Or.inr rfl))
  (pss_cons (ps_asg (pe_ifExp (PW.pt (pw_or (pt_cmpR op_lt (pv 6) (pe_op op_sub (pv 2) pe_int) (by first | exact nomark _ | rfl)) (pw_or1 (pt_cmpR op_eq (pv 3) pe_int (by first | exact nomark _ | rfl))))) (C8.pe_c c__law_take hr (by omega) (by rfl) (pa_cons (pv 0) (pa_cons (pe_op op_add (pv 5) pe_int) pa_nil))) (pv 5)) (pg_sub (pv 4) (pv 6) set_list))
 (pss_one (ps_set (i := 5) sc__law_put_row.nd rfl (by first | exact Or.inl rfl | exact Or.inr rfl) (pe_op op_sub (pv 5) (pe_ix ix_list (pv 4) (pv 6) (fun _ _ => rfl)))))))
 (pss_one (ps_ret (pv 4))))))), body_of (n := 4) (fun ρ ds hl hp => ?_) h⟩
  obtain ⟨a, p, n, way, rfl, rfl, p0, p1, n1, n2, w0, w1⟩ := hp
  try dsimp only [cxOf, Cx.nox, Cx.wish]
  let e0 : Dl := [some (.val (.opq (.ref a))), some (.val (.int p)), some (.val (.int (n : Nat))), some (.val (.int way)), none, none, none]
  let e1 : List Int → Dl := fun xs => e0.set 4 (some (.own (.lst (xs.map D.int))))
  have fin : ∀ (o : Out) (xs : List Int), o = .rt (.lst (xs.map D.int)) → PutRow n p xs → (∃ d, o = .rt d ∧ postRow [.opq (.ref a), .int p, .int (n : Nat), .int way] d) ∨ ∃ δ, o = .nx δ ∧ postRow [.opq (.ref a), .int p, .int (n : Nat), .int way] .non := fun o xs e h => .inl ⟨_, e, fun a' p' n' way' e2 => by
    injection e2 with _ e2
    injection e2 with e2 e3
    injection e3 with e3 _
    injection e2 with e2
    injection e3 with e3
    subst e2
    have : n' = n := by omega
    subst this
    exact ⟨xs, rfl, h⟩⟩
  refine ⟨0 + (0 + ((0 + (1 + 0)) + (1 + (0 + (40 * 1 + 0))))), by decide, ?_⟩
  apply sj_new (k1 := 0) (P := (· = .lst ((List.replicate n 0).map D.int)))
  · refine (en_lcE (L := [6]) (ds := (List.range (n : Int).toNat).map fun j => D.int (0 + (j : Nat))) (p := fun _ => true) (f := fun _ => .int 0) (ij_range1 (ed_var rfl) ⟨by omega, by omega⟩) (fun i h => h) (by rw [List.length_map, List.length_range]; omega) (fun d _ => gj_name) (fun d _ => eb_yes) (fun d hd _ => ed_int)).mono (Nat.le_refl _) fun r e => ?_
    rw [e, filt_true, List.map_map, List.map_replicate]
    congr 1
    rw [show (n : Int).toNat = n from Int.toNat_natCast n]
    exact List.eq_replicate_iff.mpr ⟨by rw [List.length_map, List.length_range], fun b hb => by obtain ⟨j, _, rfl⟩ := List.mem_map.mp hb; rfl⟩
  rintro _ rfl
  apply sj_ifs (k1 := 0) (PT := (· = decide (way < 3)))
  · exact eb_test (ed_op (ed_var rfl) ed_int rj_B0)
  · intro e
    have hw : way < 3 := of_decide_eq_true e.symm
    apply sj_assoc
    refine sj_le (k := 0 + (((0 + (0 + ((0 + 1) + 0))) + 0) + 0)) ?_ (by decide)
    refine sj_setItemJ (i := 4) (P := (· = .int p)) rfl (ed_var rfl) ?_ ?_
    · refine ej_ixL (PI := fun _ => True) (PL := fun ds => ∃ r : Int, ds = [.int 0, .int ((n : Int) - 1), .int r] ∧ 0 ≤ r ∧ r < n) ?_ ?_ ?_
      · refine ej_lst (PA := fun ds => ∃ r : Int, ds = [.int 0, .int ((n : Int) - 1), .int r] ∧ 0 ≤ r ∧ r < n) ?_ (fun ds h => by obtain ⟨r, rfl, _⟩ := h; show 3 ≤ 1000000; decide) (fun ds h => ⟨ds, rfl, h⟩)
        refine ea_cons (PR := fun ds => ∃ r : Int, ds = [.int ((n : Int) - 1), .int r] ∧ 0 ≤ r ∧ r < n) ed_int (fun _ _ => ?_) (fun a r e h => by obtain ⟨x, rfl, h⟩ := h; exact ⟨x, by rw [e], h⟩)
        refine ea_cons (PR := fun ds => ∃ r : Int, ds = [.int r] ∧ 0 ≤ r ∧ r < n) (ed_op (ed_var rfl) ed_int rj_I0) (fun _ _ => ?_) (fun a r e h => by obtain ⟨x, rfl, h⟩ := h; exact ⟨x, by rw [e], h⟩)
        exact ea_cons (PR := (· = [])) (ej_take rfl (ed_var rfl) (ed_var rfl) (by omega) (by omega)) (fun _ _ => eda_nil) (fun a r h e => by obtain ⟨x, rfl, h⟩ := h; subst e; exact ⟨x, rfl, h⟩)
      · rintro _ ⟨r, rfl, _⟩
        exact ej_ex (ed_var rfl) ⟨way, rfl, w0, hw⟩
      · rintro _ d ⟨r, rfl, r0, r1⟩ hd
        simp only [List.mem_cons, List.not_mem_nil, or_false] at hd
        rcases hd with rfl | rfl | rfl
        · exact ⟨0, rfl, by rw [List.length_map, List.length_replicate]; omega⟩
        · exact ⟨n - 1, by congr 1; omega, by rw [List.length_map, List.length_replicate]; omega⟩
        · exact ⟨r.toNat, by congr 1; omega, by rw [List.length_map, List.length_replicate]; omega⟩
    rintro _ m rfl hm
    rw [List.length_map, List.length_replicate] at hm
    apply sj_frz 4 rfl
    apply sj_retP (P := (· = .lst (((List.replicate n (0 : Int)).set m p).map D.int)))
    · rw [← set_map]
      exact ed_var rfl
    rintro _ rfl
    refine fin _ _ rfl ⟨by rw [List.length_set, List.length_replicate], fun x hx => ?_, by rw [sum_set0 _ _ _ hm]; exact Int.le_refl _⟩
    rcases mem_set0 hx with rfl | rfl
    · exact Int.le_refl _
    · exact p0
  intro e
  apply sj_nexts
  refine sj_set (k1 := 0 + (0 + (0 + 1))) (k2 := 0 + (40 * 1 + 0)) (P := fun d => ∃ l : Int, d = .int l ∧ 0 ≤ l ∧ l ≤ p) ?_ ?_
  · refine ej_if (PT := fun _ => True) ((eb_test (ed_op (ed_var rfl) ed_int rj_eqI)).mono (Nat.le_refl _) fun _ _ => trivial) (fun _ => ej_ex (ed_var rfl) ⟨p, rfl, p0, Int.le_refl _⟩) fun _ => ?_
    exact (ej_take rfl (ed_var rfl) (ed_op (ed_var rfl) ed_int rj_I0) (by omega) (by omega)).mono (Nat.le_refl _) fun d h => by
      obtain ⟨r, rfl, h0, h1⟩ := h
      exact ⟨r, rfl, h0, by omega⟩
  rintro _ ⟨l, rfl, l0, l1⟩
  let eI : List Int → Nat → Int → Dl := fun xs k l => [some (.val (.opq (.ref a))), some (.val (.int p)), some (.val (.int (n : Nat))), some (.val (.int way)), some (.own (.lst ((xs ++ List.replicate k 0).map D.int))), some (.val (.int l)), none]
  refine sj_for (L := [6]) (k1 := 0) (kb := 1) (k2 := 0) (N := 40) (PI := (· = (List.range (n : Int).toNat).map fun j => D.int (0 + (j : Nat)))) (ij_range1 (ed_var rfl) ⟨by omega, by omega⟩) (fun _ j δ' => ∃ (xs : List Int) (l : Int), δ' = eI xs (n - j) l ∧ xs.length = j ∧ (∀ x ∈ xs, 0 ≤ x) ∧ 0 ≤ l ∧ l ≤ p ∧ xs.sum + l ≤ p) (fun _ => False) ?_ ?_ ?_ ?_
  · rintro _ rfl
    rw [List.length_map, List.length_range]; omega
  · rintro _ rfl
    exact ⟨[], l, rfl, rfl, (fun x hx => by cases hx), l0, l1, by show (0 : Int) + l ≤ p; omega⟩
  · rintro _ j d _ rfl hd ⟨xs, l, rfl, hl, hn, h0, hlp, hs⟩
    obtain ⟨hj, rfl⟩ := range_at hd
    have hj : j < n := by rw [Int.toNat_natCast] at hj; exact hj
    obtain ⟨k, hk⟩ : ∃ k, n - j = k + 1 := ⟨n - j - 1, by omega⟩
    have hk2 : n - (j + 1) = k := by omega
    refine ⟨_, gj_name, ?_⟩
    refine sj_le (k := (0 + 0 + ((0 + 1) + 0)) + 0) ?_ (by decide)
    refine sj_setItem (i := 4) (n := j) (P := fun d => ∃ x : Int, d = .int x ∧ 0 ≤ x ∧ x ≤ l) rfl ?_ (ed_var rfl) (by rw [List.length_map, List.length_append, List.length_replicate]; omega) ?_
    · refine ej_if (PT := fun _ => True) ((eb_or (eb_test (ed_op (ed_var rfl) (ed_op (ed_var rfl) ed_int rj_I0) rj_B0)) fun _ => eb_test (ed_op (ed_var rfl) ed_int rj_eqI)).mono (Nat.le_refl _) fun _ _ => trivial) (fun _ => ?_) fun _ => ej_ex (ed_var rfl) ⟨l, rfl, h0, Int.le_refl _⟩
      exact (ej_take rfl (ed_var rfl) (ed_op (ed_var rfl) ed_int rj_I0) (by omega) (by omega)).mono (Nat.le_refl _) fun d h => by
        obtain ⟨r, rfl, h0, h1⟩ := h
        exact ⟨r, rfl, h0, by omega⟩
    rintro _ ⟨x, rfl, x0, x1⟩
    have eset : ((xs ++ List.replicate (n - j) 0).map D.int).set j (.int x) = ((xs ++ [x]) ++ List.replicate k 0).map D.int := by
      rw [set_map, hk, ← hl, set_mid]
    rw [eset]
    apply sj_last
    refine sj_set (k1 := 0) (k2 := 0) (P := (· = .int (l - x))) ?_ ?_
    · refine ej_peek 4 rfl (ed_op (ed_var rfl) (ed_op (ed_var rfl) (ed_var rfl) (rj_ixL (d := .int x) (atI_nat ?_))) rj_I0) fun d e => by rw [e]; rfl
      rw [List.map_append, List.getElem?_append_left (by rw [List.length_map, List.length_append]; show j < xs.length + 1; omega), List.map_append, List.getElem?_append_right (by rw [List.length_map]; omega), List.length_map, hl, Nat.sub_self]
      rfl
    rintro _ rfl
    refine sj_nextW (δ' := eI (xs ++ [x]) (n - (j + 1)) (l - x)) ?_ ⟨xs ++ [x], l - x, rfl, by rw [List.length_append, hl]; rfl, fun y hy => ?_, by omega, by omega, by rw [List.sum_append]; show xs.sum + (x + 0) + (l - x) ≤ p; omega⟩
    · rw [hk2]
      exact .keep (.keep (.keep (.keep (.keep (.keep (.drop .nil))))))
    · rcases List.mem_append.mp hy with hy | hy
      · exact hn y hy
      · rw [List.mem_singleton.mp hy]; exact x0
  · rintro _ _ rfl (⟨xs, l, rfl, hl, hn, h0, hlp, hs⟩ | z)
    rotate_left
    · exact z.elim
    rw [List.length_map, List.length_range, Int.toNat_natCast] at hl
    apply sj_frz 4 rfl
    apply sj_retP (P := (· = .lst (xs.map D.int)))
    · have : n - ((List.range (n : Int).toNat).map fun j => D.int (0 + (j : Nat))).length = 0 := by rw [List.length_map, List.length_range, Int.toNat_natCast, Nat.sub_self]
      rw [this]
      have e2 : xs ++ List.replicate 0 0 = xs := List.append_nil _
      rw [e2]
      exact ed_var rfl
    rintro _ rfl
    exact fin _ _ rfl ⟨hl, hn, by omega⟩
end
end DN

namespace DN
open PySem PySem.Spec PyProof.Rows L2
variable [Tb]
section
variable {ρ : Rh} {K : PySem.W.Frag} {δ : Dl} {ta tb : TE}
/-- list(range(lo, hi)) -/
theorem en_listRg2 {lo hi : Int} (h : ED ρ K ta δ (.int lo)) (h' : ED ρ K tb δ (.int hi)) (l0 : 0 ≤ lo) (h0 : lo ≤ hi) (hn : hi ≤ 1000000) : EN ρ K (tLstRg (tRg2 ta tb)) δ 0 (· = .lst ((List.range (hi - lo).toNat).map fun j => D.int (lo + (j : Nat)))) := .mk fun G0 H0 G H σ m Q w hm q =>
  h.run G0 H0 G H σ m _ w hm fun d v G1 H1 m1 px w1 g1 l1 ax => h'.run G0 H0 G1 H1 σ m1 _ w1 (by omega) fun d2 v2 G2 H2 m2 px2 w2 g2 l2 ax2 => by
    subst px px2
    cases ax
    cases ax2
    have e : rgV lo hi = ((List.range (hi - lo).toNat).map fun j => (lo + (j : Nat) : Int)).map V.int := by
      unfold rgV
      rw [List.map_map]
      rfl
    have e2 : ((List.range (hi - lo).toNat).map fun j => D.int (lo + (j : Nat))) = ((List.range (hi - lo).toNat).map fun j => (lo + (j : Nat) : Int)).map D.int := by
      rw [List.map_map]; rfl
    refine ⟨lo, hi, rfl, rfl, RgOk.of_le (by omega) (by omega) (by omega) (by omega), ?_⟩
    rw [e2] at q
    rw [e]
    exact en_fin w w2 (Gd.trans w1.pot g1 g2) (.lst (atL_ints _)) fun p o G' H' m' w' g' l' => q _ p o G' H' m' rfl w' g' (by omega)
end
def nI (j : Nat) : D := .int (j : Int)
theorem nI_inj {i j : Nat} (h : nI i = nI j) : i = j := by
  have := D.int.inj h
  omega
/-- the ticks at which a link is open -/
structure OpenT (n often : Nat) (xs : List Nat) : Prop where
  nd : xs.Nodup
  lt : ∀ x ∈ xs, x < n
  many : often ≤ xs.length
theorem nd_map {α β : Type} {f : α → β} (h : ∀ a b, f a = f b → a = b) {l : List α} (hl : l.Nodup) : (l.map f).Nodup := List.Pairwise.map f (fun a b hne e => hne (h a b e)) hl
theorem nd_ofMap {α β : Type} {f : α → β} {l : List α} (hl : (l.map f).Nodup) : l.Nodup := List.Pairwise.of_map f (fun a b hne e => hne (by rw [e])) hl
theorem perm_nI {n : Nat} {rs rest : List D} (h : (rs ++ rest).Perm ((List.range n).map nI)) : ∃ xs : List Nat, rs = xs.map nI ∧ xs.Nodup ∧ ∀ x ∈ xs, x < n := by
  have hm : ∀ d ∈ rs, ∃ j, j < n ∧ d = nI j := fun d hd => by
    have := h.mem_iff.mp (List.mem_append_left _ hd)
    obtain ⟨j, hj, rfl⟩ := List.mem_map.mp this
    exact ⟨j, List.mem_range.mp hj, rfl⟩
  have key : ∀ rs : List D, (∀ d ∈ rs, ∃ j, j < n ∧ d = nI j) → ∃ xs : List Nat, rs = xs.map nI ∧ ∀ x ∈ xs, x < n := by
    intro rs
    induction rs with
    | nil => exact fun _ => ⟨[], rfl, fun x hx => by cases hx⟩
    | cons d r ih =>
      intro hm
      obtain ⟨j, hj, rfl⟩ := hm d List.mem_cons_self
      obtain ⟨xs, rfl, hx⟩ := ih fun d hd => hm d (List.mem_cons_of_mem _ hd)
      exact ⟨j :: xs, rfl, fun x hx' => by
        rcases List.mem_cons.mp hx' with rfl | h
        · exact hj
        · exact hx x h⟩
  obtain ⟨xs, rfl, hx⟩ := key rs hm
  refine ⟨xs, rfl, ?_, hx⟩
  have nd : ((List.range n).map nI).Nodup := nd_map (fun _ _ e => nI_inj e) List.nodup_range
  have := (h.nodup_iff.mpr nd).sublist (List.sublist_append_left _ _)
  exact nd_ofMap this
section
variable {P : Program} {w : World} {K : PySem.W.Frag} {mg : Str → Option Value} {base : Heap}
def preOpen (ρ : Rh) (ds : List D) : Prop := ∃ (a : Addr) (often n : Nat) (way : Int), ds = [.opq (.ref a), .int (often : Nat), .int (n : Nat), .int way] ∧ ρ = .some a ∧ often ≤ n ∧ 1 ≤ n ∧ n ≤ 40
def postOpen (ds : List D) (d : D) : Prop := ∀ (a : V) (often n : Nat) (way : Int), ds = [.opq a, .int (often : Nat), .int (n : Nat), .int way] → ∃ xs : List Nat, d = .lst (xs.map nI) ∧ OpenT n often xs
abbrev spOpen (K : PySem.W.Frag) : Sp := spJ K 4 preOpen 2000 postOpen
theorem ok_open {f : Addr} {fd : FuncData} (F : Fun K "_law_open_ticks" "_law_open_ticks" s__law_open_ticks f fd) (T : Txt K mg) (c__law_take : C8.Cal P w K mg base 1 "_law_take" (spTake K) []) (c__law_some : C8.Cal P w K mg base 2 "_law_some" (spSome K 1000) []) : FnOk P w K mg base CX0 3 f fd ["pot", "often", "window", "way"] (spOpen K) := by
  refine F.ok sc__law_open_ticks (fun vs H Q E h => spJ_len h) (fun cdv A outer s H vs Q E hr h => ?_)
  refine ⟨_, (pss_cons (ps_if (pt_cmpR op_eq (pv 3) pe_int (by first | exact nomark _ | rfl)) (pss_one (ps_ret (pe_listRg (by rfl) (by rfl) T.b_list (prg_1 (by rfl) T.b_range (pv 1))))) pss_nil)
 (pss_cons (ps_if (pt_cmpR op_eq (pv 3) pe_int (by first | exact nomark _ | rfl)) (pss_one (ps_ret (pe_listRg (by rfl) (by rfl) T.b_list (prg_2 (by rfl) T.b_range (pe_op op_sub (pv 2) (pv 1)) (pv 2))))) pss_nil)
 (pss_cons (ps_set (i := 4) sc__law_open_ticks.nd rfl (by first | exact Or.inl rfl | exact Or.inr rfl) (pe_ifExp (pt_cmpR op_eq (pv 3) pe_int (by first | exact nomark _ | rfl)) (pv 1) (pe_op op_add (pv 1) (C8.pe_c c__law_take hr (by omega) (by rfl) (pa_cons (pv 0) (pa_cons (pe_op op_add (pe_op op_sub (pv 2) (pv 1)) pe_int) pa_nil))))))
 (pss_one (ps_ret (C8.pe_c c__law_some hr (by omega) (by rfl) (pa_cons (pv 0) (pa_cons (pe_listRg (by rfl) (by rfl) T.b_list (prg_1 (by rfl) T.b_range (pv 2))) (pa_cons (pv 4) pa_nil))))))))), body_of (n := 4) (fun ρ ds hl hp => ?_) h⟩
  obtain ⟨a, often, n, way, rfl, rfl, ho, n1, n2⟩ := hp
  try dsimp only [cxOf, Cx.nox, Cx.wish]
  have fin : ∀ (o : Out) (xs : List Nat), o = .rt (.lst (xs.map nI)) → OpenT n often xs → (∃ d, o = .rt d ∧ postOpen [.opq (.ref a), .int (often : Nat), .int (n : Nat), .int way] d) ∨ ∃ δ, o = .nx δ ∧ postOpen [.opq (.ref a), .int (often : Nat), .int (n : Nat), .int way] .non := fun o xs e h => .inl ⟨_, e, fun a' o' n' way' e2 => by
    injection e2 with _ e2
    injection e2 with e2 e3
    injection e3 with e3 _
    injection e2 with e2
    injection e3 with e3
    obtain rfl : o' = often := by omega
    obtain rfl : n' = n := by omega
    exact ⟨xs, rfl, h⟩⟩
  refine ⟨0 + (0 + (0 + (0 + ((0 + (0 + (0 + (0 + 1)))) + (0 + 1000))))), by decide, ?_⟩
  apply sj_ifs (k1 := 0) (k2 := 0) (PT := (· = decide (way = 0)))
  · exact eb_test (ed_op (ed_var rfl) ed_int rj_eqI)
  · intro _
    apply sj_rets
    apply sj_retP (P := (· = .lst ((List.range often).map nI)))
    · exact (EN.ej (en_listRg (ed_var rfl) (by omega) (by omega))).mono (Nat.le_refl _) fun d e => by rw [e, Int.toNat_natCast]; rfl
    rintro _ rfl
    exact fin _ _ rfl ⟨List.nodup_range, fun x hx => by have := List.mem_range.mp hx; omega, by rw [List.length_range]; exact Nat.le_refl _⟩
  intro _
  apply sj_nexts
  apply sj_ifs (k1 := 0) (k2 := 0) (PT := (· = decide (way = 1)))
  · exact eb_test (ed_op (ed_var rfl) ed_int rj_eqI)
  · intro _
    apply sj_rets
    apply sj_retP (P := (· = .lst (((List.range often).map fun j => (n - often) + j).map nI)))
    · refine (EN.ej (en_listRg2 (ed_op (ed_var rfl) (ed_var rfl) rj_I0) (ed_var rfl) (by omega) (by omega) (by omega))).mono (Nat.le_refl _) fun d e => ?_
      rw [e, show ((n : Int) - ((n : Int) - (often : Nat))).toNat = often by omega, List.map_map]
      refine congrArg D.lst (List.map_congr_left fun j _ => ?_)
      show D.int ((n : Int) - (often : Nat) + (j : Nat)) = D.int (((n - often + j : Nat) : Int))
      congr 1
      omega
    rintro _ rfl
    exact fin _ _ rfl ⟨nd_map (fun _ _ e => by omega) List.nodup_range, fun x hx => by
      obtain ⟨j, hj, rfl⟩ := List.mem_map.mp hx
      have := List.mem_range.mp hj
      omega, by rw [List.length_map, List.length_range]; exact Nat.le_refl _⟩
  intro _
  apply sj_nexts
  refine sj_set (k1 := 0 + (0 + (0 + (0 + 1)))) (k2 := 0 + 1000) (P := fun d => ∃ m : Nat, d = .int (m : Nat) ∧ often ≤ m ∧ m ≤ n) ?_ ?_
  · refine ej_if (PT := fun _ => True) ((eb_test (ed_op (ed_var rfl) ed_int rj_eqI)).mono (Nat.le_refl _) fun _ _ => trivial) (fun _ => ej_ex (ed_var rfl) ⟨often, rfl, Nat.le_refl _, ho⟩) fun _ => ?_
    refine ej_op (P1 := (· = .int (often : Nat))) (ed_var rfl) (fun _ _ => ej_take rfl (ed_var rfl) (ed_op (ed_op (ed_var rfl) (ed_var rfl) rj_I0) ed_int rj_I0) (by omega) (by omega)) fun x y hx hy => ?_
    obtain ⟨r, rfl, r0, r1⟩ := hy
    subst hx
    exact ⟨_, ⟨often + r.toNat, by rw [show ((often + r.toNat : Nat) : Int) = (often : Int) + r by omega], by omega, by omega⟩, rj_I0⟩
  rintro _ ⟨m, rfl, m0, m1⟩
  apply sj_retP (P := fun d => ∃ xs : List Nat, d = .lst (xs.map nI) ∧ xs.Nodup ∧ (∀ x ∈ xs, x < n) ∧ xs.length = m)
  · refine ej_call (PA := (· = [.opq (.ref a), .lst ((List.range n).map nI), .int (m : Nat)])) (eda_cons (ed_var rfl) (eda_cons ?_ (eda_cons (ed_var rfl) eda_nil))) ?_ ?_
    · exact (EN.ej (en_listRg (ed_var rfl) (by omega) (by omega))).mono (Nat.le_refl _) fun d e => by rw [e, Int.toNat_natCast]; rfl
    · rintro _ rfl
      exact ⟨rfl, a, _, m, rfl, rfl, by rw [List.length_map, List.length_range]; exact m1, by rw [List.length_map, List.length_range]; omega⟩
    · rintro _ d rfl h
      obtain ⟨rs, rest, rfl, hl, hp⟩ := h _ _ _ rfl
      obtain ⟨xs, rfl, h1, h2⟩ := perm_nI hp
      exact ⟨xs, rfl, h1, h2, by rw [List.length_map] at hl; exact hl⟩
  rintro _ ⟨xs, rfl, h1, h2, h3⟩
  exact fin _ _ rfl ⟨h1, h2, by omega⟩
end
end DN

/-! windows drawn -/
namespace DN
open PySem PySem.Spec PyProof.Rows L2
variable [Tb]
abbrev s__law_window : Stmt := topS 56
theorem sc__law_window : FnScope ["pot", "own", "window", "way", "puts", "opens", "late", "ticks", "tick", "ages", "here", "name", "level", "put", "link", "at", "some", "row", "age"] ["pot", "own"] (defScope s__law_window) := ⟨rfl, rfl, rfl, by decide +kernel, rfl, by decide +kernel, by decide +kernel⟩
abbrev s__law_weather : Stmt := topS 57
theorem sc__law_weather : FnScope ["pot", "own", "windows", "some", "found", "lap"] ["pot", "own", "windows"] (defScope s__law_weather) := ⟨rfl, rfl, rfl, by decide +kernel, rfl, by decide +kernel, by decide +kernel⟩
/-- puts, opens, ages -/
abbrev Tick := List Int × List Nat × List Int
def tickD (t : Tick) : D := .tup [.tup (t.1.map D.int), .tup (t.2.1.map nI), .tup (t.2.2.map D.int)]
def colR (rows : List (List Int)) (j : Nat) : List Int := rows.map fun r => r.getD j 0
def opnR (rows : List (List Nat)) (j : Nat) : List Nat := (List.range rows.length).filter fun k => decide (j ∈ rows.getD k [])
structure AgesOk (b : Bk) (xs : List Int) : Prop where
  len : xs.length = b.links.length
  ok : ∀ x ∈ xs, 0 ≤ x ∧ x ≤ b.late
/-- a whole window, by its rows -/
structure WinR (b : Bk) (rp : List (List Int)) (ro : List (List Nat)) (ts : List Tick) : Prop where
  p : All2 (fun (s : Stn) r => PutRow b.window.toNat s.2.2 r) b.stations rp
  o : All2 (fun (l : Lk) r => OpenT b.window.toNat l.2.2.2.toNat r) b.links ro
  len : ts.length = b.window.toNat
  at_ : ∀ (j : Nat) (t : Tick), ts[j]? = some t → t.1 = colR rp j ∧ t.2.1 = opnR ro j ∧ AgesOk b t.2.2
def WinOk (b : Bk) (ts : List Tick) : Prop := ∃ rp ro, WinR b rp ro ts
theorem any_nI {z : Nat} : ∀ {l : List Nat}, (l.map nI).any (fun y => eqF y (.int (z : Nat))) = decide (z ∈ l)
  | [] => by simp
  | x :: r => by
    have ih := any_nI (z := z) (l := r)
    rw [List.map_cons, List.any_cons, ih]
    show ((decide ((x : Int) = (z : Int))) || decide (z ∈ r)) = decide (z ∈ x :: r)
    rw [Bool.eq_iff_iff]
    simp only [Bool.or_eq_true, decide_eq_true_eq, List.mem_cons]
    constructor
    · rintro (h | h)
      · exact .inl (by omega)
      · exact .inr h
    · rintro (h | h)
      · exact .inl (by omega)
      · exact .inr h
theorem atom_nI (l : List Nat) : (l.map nI).all atomD = true := by
  rw [List.all_eq_true]
  intro x hx
  obtain ⟨b, _, rfl⟩ := List.mem_map.mp hx
  rfl
theorem all2_get {α β : Type} {R : α → β → Prop} : ∀ {as : List α} {bs : List β} {i : Nat} {b : β}, All2 R as bs → bs[i]? = some b → ∃ a, as[i]? = some a ∧ R a b
  | _, _, _, _, .nil, e => by cases e
  | _, _, 0, _, .cons h _, e => by cases e; exact ⟨_, rfl, h⟩
  | _, _, i + 1, _, .cons _ t, e => by
    obtain ⟨x, h1, h2⟩ := all2_get (i := i) t (by simpa using e)
    exact ⟨x, by simpa using h1, h2⟩
theorem enum_map {α : Type} (g : α → D) (ro : List α) (z : α) : enumD (ro.map g) = (List.range ro.length).map fun k => D.tup [nI k, g (ro.getD k z)] := by
  apply List.ext_getElem?
  intro k
  rw [List.getElem?_map]
  unfold enumD
  rw [List.getElem?_zipWith, List.length_map, List.getElem?_map]
  by_cases hk : k < ro.length
  · rw [List.getElem?_eq_getElem (by rw [List.length_range]; exact hk), List.getElem_range, List.getElem?_eq_getElem hk]
    show some (D.tup [D.int (k : Int), g ro[k]]) = some (D.tup [nI k, g (ro.getD k z)])
    rw [List.getD_eq_getElem?_getD, List.getElem?_eq_getElem hk]
    rfl
  · rw [List.getElem?_eq_none (l := List.range ro.length) (by rw [List.length_range]; omega)]
    rfl
def hereP (j : Nat) : D → Bool
  | .tup [_, .lst l] => l.any fun y => eqF y (.int (j : Nat))
  | _ => false
def hereF : D → D
  | .tup [x, _] => x
  | _ => .non
theorem here_eq (ro : List (List Nat)) (j : Nat) : ((enumD (ro.map fun r => D.lst (r.map nI))).filter (hereP j)).map hereF = (opnR ro j).map nI := by
  rw [enum_map (z := [])]
  unfold opnR
  rw [List.filter_map, List.map_map]
  have e1 : (hereF ∘ fun k => D.tup [nI k, .lst ((ro.getD k []).map nI)]) = nI := by funext k; rfl
  rw [e1]
  congr 1
  apply List.filter_congr
  intro k _
  show ((ro.getD k []).map nI).any (fun y => eqF y (.int (j : Nat))) = _
  rw [any_nI]
theorem ints_of_all {lo hi : Int} {α : Type} : ∀ {ds : List α} {rs : List D}, All2 (fun _ r => ∃ x : Int, r = .int x ∧ lo ≤ x ∧ x ≤ hi) ds rs → ∃ xs : List Int, rs = xs.map D.int ∧ xs.length = ds.length ∧ ∀ x ∈ xs, lo ≤ x ∧ x ≤ hi
  | [], _, .nil => ⟨[], rfl, rfl, fun x hx => by cases hx⟩
  | _ :: _, _, .cons h t => by
    obtain ⟨xs, rfl, hl, hx⟩ := ints_of_all t
    obtain ⟨x, rfl, h0, h1⟩ := h
    refine ⟨x :: xs, rfl, by rw [List.length_cons, hl]; rfl, fun y hy => ?_⟩
    rcases List.mem_cons.mp hy with rfl | hy
    · exact ⟨h0, h1⟩
    · exact hx y hy
section
variable {ρ : Rh} {K : PySem.W.Frag} {E : XK} {δ : Dl} {ta tb : TE} {u : TS} {k1 k2 k3 : Nat} {P1 P2 : D → Prop} {PO : Out → Prop} {i j : Nat}
/-- x, y = e, f by a tuple, where the second is to grow -/
theorem sj_tupVO {n : Nat} (hij : i ≠ j) (hn2 : n = 2) (ha : EJ ρ K ta δ k1 P1) (hb : EN ρ K tb δ k2 P2) (hn : ∀ a b, P1 a → P2 b → SJ ρ K E u ((δ.set i (some (.val a))).set j (some (.own b))) k3 PO) :
    SJ ρ K E (tSeq (tAsg (tTup (tCons ta (tCons tb tNil))) (gTup K n (gCons (gName i) (gCons (gName j) gNil)))) u) δ (k1 + k2 + k3) PO := .mk fun G0 H0 G H σ m D w hm q => by
  subst hn2
  refine ha.run G0 H0 G H σ m _ w (by omega) fun a v G1 H1 m1 pa w1 g1 l1 av => hb.run G0 H0 G1 H1 σ m1 _ w1 (by omega) fun b r o2 G2 H2 m2 pb w2 g2 l2 hr ho2 ob hg2 => ?_
  refine ⟨(by show 2 ≤ sizeLine; decide), fun t ht => ?_⟩
  have g3 := Gd.alloc0 (o := HO.tup [v, V.ref r]) w2.gd.sub ht
  have w3 := w2.step g3.weak (w2.pot.keep g3)
  have n2 : r ≠ t := fun z => by subst z; rw [ho2] at ht; cases ht
  refine ⟨t, [v, .ref r], rfl, .inl (.inl upd_same), rfl, _, _, rfl, _, _, rfl, rfl, ?_⟩
  have w4 := w3.set (i := i) (av.mono g2.gg)
  refine (hn a b pa pb).run G0 H0 G2 _ _ m2 D (w4.setOwn (i := j) (w1.fresh hr) (by rw [upd_ne n2]; exact ho2) ob hg2 fun l e hjl hl => ?_) (by omega) fun o po => (q o po).le (by omega)
  by_cases hil : i = l
  · subst hil
    by_cases hs : i < δ.length
    · rw [List.getElem?_set_self hs] at hl
      cases hl
    · rw [List.getElem?_eq_none (by rw [List.length_set]; omega)] at hl
      cases hl
  · rw [List.getElem?_set_ne hil] at hl ⊢
    exact w1.notOwn hr hl
end
section
variable {P : Program} {w : World} {K : PySem.W.Frag} {mg : Str → Option Value} {base : Heap}
theorem rj_inN {z : Nat} {l : List Nat} : RJ K (rIn K false) (.int (z : Nat)) (.lst (l.map nI)) (.bl (decide (z ∈ l))) := by
  rw [← any_nI]
  exact rj_in (neg := false) rfl (atom_nI l)
theorem rows_of_all {b : Bk} : ∀ {ss : List Stn} {rs : List D}, All2 (fun d r => ∃ (s : Stn) (xs : List Int), d = statD s ∧ r = .lst (xs.map D.int) ∧ PutRow b.window.toNat s.2.2 xs) (ss.map statD) rs → ∃ rp : List (List Int), rs = rp.map (fun r => .lst (r.map D.int)) ∧ All2 (fun (s : Stn) r => PutRow b.window.toNat s.2.2 r) ss rp
  | [], _, .nil => ⟨[], rfl, .nil⟩
  | s :: r, _, .cons h t => by
    obtain ⟨rp, rfl, h2⟩ := rows_of_all t
    obtain ⟨s', xs, e, rfl, h1⟩ := h
    have := statD_inj e
    subst this
    exact ⟨xs :: rp, rfl, .cons h1 h2⟩
theorem linkD_inj {s s1 : Lk} (h : linkD s = linkD s1) : s = s1 := by
  obtain ⟨a, b, c, d⟩ := s
  obtain ⟨a', b', c', d'⟩ := s1
  simp only [linkD] at h
  injection h with h
  injection h with h1 h
  injection h with h2 h
  injection h with h3 h
  injection h with h4 _
  injection h1 with h1
  injection h2 with h2
  injection h3 with h3
  injection h4 with h4
  subst h1 h2 h3 h4
  rfl
theorem opens_of_all {b : Bk} : ∀ {ss : List Lk} {rs : List D}, All2 (fun d r => ∃ (s : Lk) (xs : List Nat), d = linkD s ∧ r = .lst (xs.map nI) ∧ OpenT b.window.toNat s.2.2.2.toNat xs) (ss.map linkD) rs → ∃ rp : List (List Nat), rs = rp.map (fun r => .lst (r.map nI)) ∧ All2 (fun (s : Lk) r => OpenT b.window.toNat s.2.2.2.toNat r) ss rp
  | [], _, .nil => ⟨[], rfl, .nil⟩
  | s :: r, _, .cons h t => by
    obtain ⟨rp, rfl, h2⟩ := opens_of_all t
    obtain ⟨s', xs, e, rfl, h1⟩ := h
    have := linkD_inj e
    subst this
    exact ⟨xs :: rp, rfl, .cons h1 h2⟩
abbrev spWin0 (K : PySem.W.Frag) (b : Bk) : Sp := spJ K 2 (fun ρ ds => ∃ a, ds = [.opq (.ref a), bkD b] ∧ ρ = .some a ∧ RdOk b) 1000000 (fun _ r => ∃ ts : List Tick, r = .lst (ts.map tickD) ∧ WinOk b ts)
def spWin (K : PySem.W.Frag) : Sp := fun vs H Q E => ∃ b, spWin0 K b vs H Q E
theorem ok_window {f : Addr} {fd : FuncData} (F : Fun K "_law_window" "_law_window" s__law_window f fd) (T : Txv K mg) (c__law_take : C8.Cal P w K mg base 1 "_law_take" (spTake K) []) (c__law_put_row : C8.Cal P w K mg base 2 "_law_put_row" (spPutRow K) []) (c__law_open_ticks : C8.Cal P w K mg base 3 "_law_open_ticks" (spOpen K) []) : FnOk P w K mg base CX0 4 f fd ["pot", "own"] (spWin K) := by
  refine F.ok sc__law_window (fun vs H Q E h => by obtain ⟨_, h⟩ := h; exact spJ_len h) (fun cdv A outer s H vs Q E hr h => ?_)
  obtain ⟨b, h⟩ := h
  refine ⟨_, (pss_cons (ps_asg (pe_tup (pa_cons (pe_dget (hu_of hr) (pv 1) pe_str (fun _ _ => rfl)) (pa_cons (C8.pe_c c__law_take hr (by omega) (by rfl) (pa_cons (pv 0) (pa_cons pe_int pa_nil))) pa_nil))) (pg_tup rfl (pgs_cons (pg_name (i := 2) sc__law_window.nd rfl (by first | exact Or.inl rfl | exact Or.inr rfl)) (pgs_cons (pg_name (i := 3) sc__law_window.nd rfl (by first | exact Or.inl rfl | exact Or.inr rfl)) pgs_nil))))
 (pss_cons (ps_setLc (i := 4) (own := [("name", 11), ("level", 12), ("put", 13)]) (g := (gTup K 3 (gCons (gName 11) (gCons (gName 12) (gCons (gName 13) gNil))))) rfl sc__law_window.nd rfl rfl (sw_true rfl rfl rfl (by decide +kernel)) (pi_list (pe_dget (hu_of hr) (pv 1) pe_str (fun _ _ => rfl))) (blkOk_by (N := ["pot", "own", "window", "way", "puts", "opens", "late", "ticks", "tick", "ages", "here", "name", "level", "put", "link", "at", "some", "row", "age"]) (sc := defScope s__law_window) (by decide +kernel)) (fun _ _ _ _ _ => (pg_tup rfl (pgs_cons (pg_name (i := 11) sc__law_window.nd rfl (by first | exact Or.inl rfl | exact Or.inr rfl)) (pgs_cons (pg_name (i := 12) sc__law_window.nd rfl (by first | exact Or.inl rfl | exact Or.inr rfl)) (pgs_cons (pg_name (i := 13) sc__law_window.nd rfl (by first | exact Or.inl rfl | exact Or.inr rfl)) pgs_nil))))) (fun _ _ _ _ _ => pts_nil) (fun _ _ _ _ _ => (C8.pe_c c__law_put_row hr (by omega) (by rfl) (pa_cons (pv 0) (pa_cons (pv 13) (pa_cons (pv 2) (pa_cons (pe_callB (call_min2 (by rfl)) (by rfl) T.b_min (by decide +kernel) (pa_cons pe_int (pa_cons (C8.pe_c c__law_take hr (by omega) (by rfl) (pa_cons (pv 0) (pa_cons pe_int pa_nil))) pa_nil))) pa_nil)))))))
 (pss_cons (ps_setLc (i := 5) (own := [("link", 14)]) rfl sc__law_window.nd rfl rfl (sw_true rfl rfl rfl (by decide +kernel)) (pi_list (pe_dget (hu_of hr) (pv 1) pe_str (fun _ _ => rfl))) (blkOk_by (N := ["pot", "own", "window", "way", "puts", "opens", "late", "ticks", "tick", "ages", "here", "name", "level", "put", "link", "at", "some", "row", "age"]) (sc := defScope s__law_window) (by decide +kernel)) (fun _ _ _ _ _ => (pg_name (i := 14) sc__law_window.nd rfl (by first | exact Or.inl rfl | exact Or.inr rfl))) (fun _ _ _ _ _ => pts_nil) (fun _ _ _ _ _ => (C8.pe_c c__law_open_ticks hr (by omega) (by rfl) (pa_cons (pv 0) (pa_cons (pe_ix (r := rIxT K) ix_tup (pv 14) pe_int (fun _ _ => rfl)) (pa_cons (pv 2) (pa_cons (pe_ifExp (pt_cmpR op_lt (pv 3) pe_int (by first | exact nomark _ | rfl)) (pv 3) (C8.pe_c c__law_take hr (by omega) (by rfl) (pa_cons (pv 0) (pa_cons pe_int pa_nil)))) pa_nil)))))))
 (pss_cons (ps_asg (pe_tup (pa_cons (C8.pe_c c__law_take hr (by omega) (by rfl) (pa_cons (pv 0) (pa_cons pe_int pa_nil))) (pa_cons (pe_lst pa_nil) pa_nil))) (pg_tup rfl (pgs_cons (pg_name (i := 6) sc__law_window.nd rfl (by first | exact Or.inl rfl | exact Or.inr rfl)) (pgs_cons (pg_name (i := 7) sc__law_window.nd rfl (by first | exact Or.inl rfl | exact Or.inr rfl)) pgs_nil))))
 (pss_cons (ps_for PassesOwn.never rfl (pi_range1 (by rfl) T.b_range (pa_cons (pv 2) pa_nil)) (pg_name (i := 8) sc__law_window.nd rfl (by first | exact Or.inl rfl | exact Or.inr rfl))
  (pss_cons (ps_setLc (i := 9) (own := [("link", 14)]) rfl sc__law_window.nd rfl rfl (sw_true rfl rfl rfl (by decide +kernel)) (pi_list (pe_dget (hu_of hr) (pv 1) pe_str (fun _ _ => rfl))) (blkOk_by (N := ["pot", "own", "window", "way", "puts", "opens", "late", "ticks", "tick", "ages", "here", "name", "level", "put", "link", "at", "some", "row", "age"]) (sc := defScope s__law_window) (by decide +kernel)) (fun _ _ _ _ _ => (pg_name (i := 14) sc__law_window.nd rfl (by first | exact Or.inl rfl | exact Or.inr rfl))) (fun _ _ _ _ _ => pts_nil) (fun _ _ _ _ _ => (pe_ix (r := rIxL K) ix_list (pe_lst (pa_cons pe_int (pa_cons (pe_dget (hu_of hr) (pv 1) pe_str (fun _ _ => rfl)) (pa_cons (C8.pe_c c__law_take hr (by omega) (by rfl) (pa_cons (pv 0) (pa_cons (pe_op op_add (pe_dget (hu_of hr) (pv 1) pe_str (fun _ _ => rfl)) pe_int) pa_nil))) pa_nil)))) (pv 6) (fun _ _ => rfl))))
 (pss_cons (ps_set (i := 10) sc__law_window.nd rfl (by first | exact Or.inl rfl | exact Or.inr rfl) (pe_callTy call_tuple_of (by rfl) T.b_tuple (by decide +kernel) (pa_cons (pe_lc (own := [("at", 15), ("some", 16)]) (g := (gTup K 2 (gCons (gName 15) (gCons (gName 16) gNil)))) rfl sc__law_window.nd (pi_enum (by rfl) T.b_enumerate (pa_cons (pv 5) pa_nil)) (blkOk_by (N := ["pot", "own", "window", "way", "puts", "opens", "late", "ticks", "tick", "ages", "here", "name", "level", "put", "link", "at", "some", "row", "age"]) (sc := defScope s__law_window) (by decide +kernel)) (fun _ _ _ _ _ => (pg_tup rfl (pgs_cons (pg_name (i := 15) sc__law_window.nd rfl (by first | exact Or.inl rfl | exact Or.inr rfl)) (pgs_cons (pg_name (i := 16) sc__law_window.nd rfl (by first | exact Or.inl rfl | exact Or.inr rfl)) pgs_nil)))) (fun _ _ _ _ _ => (pts_one (pt_cmpR (op_in_seqK K rfl) (pv 8) (pv 16) (by first | exact nomark _ | rfl)))) (fun _ _ _ _ _ => (pe_callTy call_int1 (by rfl) T.b_int (by decide +kernel) (pa_cons (pv 15) pa_nil)))) pa_nil)))
 (pss_one (ps_expr (pe_bm PySem.F.plainAttrs_list PySem.F.slot_list_append PySem.F.type_list_append mt_append (pv 7) (pa_cons (pe_tup (pa_cons (pe_callTy call_tuple_of (by rfl) T.b_tuple (by decide +kernel) (pa_cons (pe_lc (own := [("row", 17)]) rfl sc__law_window.nd (pi_list (pv 4)) (blkOk_by (N := ["pot", "own", "window", "way", "puts", "opens", "late", "ticks", "tick", "ages", "here", "name", "level", "put", "link", "at", "some", "row", "age"]) (sc := defScope s__law_window) (by decide +kernel)) (fun _ _ _ _ _ => (pg_name (i := 17) sc__law_window.nd rfl (by first | exact Or.inl rfl | exact Or.inr rfl))) (fun _ _ _ _ _ => pts_nil) (fun _ _ _ _ _ => (pe_callTy call_int1 (by rfl) T.b_int (by decide +kernel) (pa_cons (pe_ix (r := rIxL K) ix_list (pv 17) (pv 8) (fun _ _ => rfl)) pa_nil)))) pa_nil)) (pa_cons (pv 10) (pa_cons (pe_callTy call_tuple_of (by rfl) T.b_tuple (by decide +kernel) (pa_cons (pe_lc (own := [("age", 18)]) rfl sc__law_window.nd (pi_list (pv 9)) (blkOk_by (N := ["pot", "own", "window", "way", "puts", "opens", "late", "ticks", "tick", "ages", "here", "name", "level", "put", "link", "at", "some", "row", "age"]) (sc := defScope s__law_window) (by decide +kernel)) (fun _ _ _ _ _ => (pg_name (i := 18) sc__law_window.nd rfl (by first | exact Or.inl rfl | exact Or.inr rfl))) (fun _ _ _ _ _ => pts_nil) (fun _ _ _ _ _ => (pe_callTy call_int1 (by rfl) T.b_int (by decide +kernel) (pa_cons (pv 18) pa_nil)))) pa_nil)) pa_nil)))) pa_nil)))))))
 (pss_one (ps_ret (pv 7)))))))), body_of (n := 2) (fun ρ ds hl hp => ?_) h⟩
  obtain ⟨a, rfl, rfl, ok⟩ := hp
  try dsimp only [cxOf, Cx.nox, Cx.wish]
  have hw := ok.w
  have hla := ok.l
  have hn2 := ok.n2
  have hnl := ok.nl
  obtain ⟨n, hn⟩ : ∃ n : Nat, b.window = (n : Int) := ⟨b.window.toNat, by omega⟩
  have hnn : b.window.toNat = n := by omega
  let E0 : Dl := initD 19 [.opq (.ref a), bkD b]
  let E1 : Int → Dl := fun r => (E0.set 2 (some (.val (.int (n : Nat))))).set 3 (some (.val (.int r)))
  refine ⟨0 + ((0 + 1) + 0) + (0 + 20 * 101 + (0 + 60 * 2001 + ((0 + 1) + 0 + (0 + (40 * 60 + 0))))), by decide, ?_⟩
  refine sj_asg (L := [2, 3]) (P := fun d => ∃ r : Int, d = .tup [.int (n : Nat), .int r] ∧ 0 ≤ r ∧ r < 6) (δ' := fun d => match d with | .tup [x, y] => (E0.set 2 (some (.val x))).set 3 (some (.val y)) | _ => []) ?_ ?_ ?_
  · refine ej_tup (PA := fun ds => ∃ r : Int, ds = [.int (n : Nat), .int r] ∧ 0 ≤ r ∧ r < 6) ?_ (fun ds h => by obtain ⟨r, rfl, _⟩ := h; show 2 ≤ 1000000; decide) (fun ds h => by obtain ⟨r, rfl, h⟩ := h; exact ⟨r, rfl, h⟩)
    refine ea_cons (P1 := (· = .int (n : Nat))) (PR := fun ds => ∃ r : Int, ds = [.int r] ∧ 0 ≤ r ∧ r < 6) (by rw [← hn]; exact ed_dget (x := .inr "window") (ed_var rfl) ed_str (bk_window b)) (fun _ _ => ?_) (fun x r e h => by obtain ⟨y, rfl, h⟩ := h; subst e; exact ⟨y, rfl, h⟩)
    exact ea_cons (P1 := fun d => ∃ r : Int, d = .int r ∧ 0 ≤ r ∧ r < 6) (PR := (· = [])) (ej_take rfl (ed_var rfl) ed_int (by decide) (by decide)) (fun _ _ => eda_nil) (fun x r h e => by obtain ⟨y, rfl, h⟩ := h; subst e; exact ⟨y, rfl, h⟩)
  · rintro _ ⟨r, rfl, _⟩
    exact gj_tup (gsj_cons gj_name (gsj_cons gj_name gsj_nil)) rfl
  rintro _ ⟨way, rfl, w0, w1⟩
  show SJ (.some a) K E _ (E1 way) _ _
  -- the rows of puts
  refine sj_set (k1 := 0 + 20 * 101) (k2 := 0 + 60 * 2001 + ((0 + 1) + 0 + (0 + (40 * 60 + 0)))) (P := fun d => ∃ rp : List (List Int), d = .lst (rp.map fun r => .lst (r.map D.int)) ∧ All2 (fun (s : Stn) r => PutRow b.window.toNat s.2.2 r) b.stations rp) ?_ ?_
  · refine (EN.ej (en_lc (L := [11, 12, 13]) (PI := (· = b.stations.map statD)) (N := 20) (ke := 101) (p := fun _ => true) (R := fun d r => ∃ (s : Stn) (xs : List Int), d = statD s ∧ r = .lst (xs.map D.int) ∧ PutRow b.window.toNat s.2.2 xs) (δt := fun d => match d with | .tup [x, y, z] => ((((wipeD (E1 way) [11, 12, 13]).set 11 (some (.val x))).set 12 (some (.val y))).set 13 (some (.val z))) | _ => []) (ij_list (ed_dget (x := .inr "stations") (ed_var rfl) ed_str (bk_stations b))) (fun ds e => by subst e; rw [List.length_map]; exact hn2) (fun i h => by simpa using h) (by decide) (fun ds d e hd => ?_) (fun ds d e hd => eb_yes) (fun ds d e hd _ => ?_))).mono (Nat.le_refl _) fun r h => ?_
    · subst e
      obtain ⟨s, hs, rfl⟩ := List.mem_map.mp hd
      exact gj_tup (gsj_cons gj_name (gsj_cons gj_name (gsj_cons gj_name gsj_nil))) rfl
    · subst e
      obtain ⟨s, hs, rfl⟩ := List.mem_map.mp hd
      have hp := ok.pt s hs
      refine ej_le (k := 0 + (0 + (0 + ((0 + ((0 + 1) + 0)) + 0))) + 100) ?_ (by decide)
      refine ej_call (k := 0 + (0 + (0 + ((0 + ((0 + 1) + 0)) + 0)))) (PA := fun ds => ∃ way : Int, ds = [.opq (.ref a), .int s.2.2, .int (n : Nat), .int way] ∧ 0 ≤ way ∧ way ≤ 4) ?_ ?_ ?_
      · refine ea_cons (P1 := (· = .opq (.ref a))) (PR := fun ds => ∃ way : Int, ds = [.int s.2.2, .int (n : Nat), .int way] ∧ 0 ≤ way ∧ way ≤ 4) (ed_var rfl) (fun _ _ => ?_) (fun x r e h => by obtain ⟨y, rfl, h⟩ := h; subst e; exact ⟨y, rfl, h⟩)
        refine ea_cons (P1 := (· = .int s.2.2)) (PR := fun ds => ∃ way : Int, ds = [.int (n : Nat), .int way] ∧ 0 ≤ way ∧ way ≤ 4) (ed_var rfl) (fun _ _ => ?_) (fun x r e h => by obtain ⟨y, rfl, h⟩ := h; subst e; exact ⟨y, rfl, h⟩)
        refine ea_cons (P1 := (· = .int (n : Nat))) (PR := fun ds => ∃ way : Int, ds = [.int way] ∧ 0 ≤ way ∧ way ≤ 4) (ed_var rfl) (fun _ _ => ?_) (fun x r e h => by obtain ⟨y, rfl, h⟩ := h; subst e; exact ⟨y, rfl, h⟩)
        refine ea_cons (P1 := fun d => ∃ way : Int, d = .int way ∧ 0 ≤ way ∧ way ≤ 4) (PR := (· = [])) ?_ (fun _ _ => eda_nil) (fun x r h e => by obtain ⟨y, rfl, h⟩ := h; subst e; exact ⟨y, rfl, h⟩)
        refine ej_cb (PA := fun ds => ∃ x : Int, ds = [.int 4, .int x] ∧ 0 ≤ x ∧ x < 5) ?_ ?_
        · refine ea_cons (P1 := (· = .int 4)) (PR := fun ds => ∃ x : Int, ds = [.int x] ∧ 0 ≤ x ∧ x < 5) ed_int (fun _ _ => ?_) (fun x r e h => by obtain ⟨y, rfl, h⟩ := h; subst e; exact ⟨y, rfl, h⟩)
          exact ea_cons (P1 := fun d => ∃ x : Int, d = .int x ∧ 0 ≤ x ∧ x < 5) (PR := (· = [])) (ej_take rfl (ed_var rfl) ed_int (by decide) (by decide)) (fun _ _ => eda_nil) (fun x r h e => by obtain ⟨y, rfl, h⟩ := h; subst e; exact ⟨y, rfl, h⟩)
        · rintro _ ⟨x, rfl, x0, x1⟩
          exact ⟨_, ⟨_, rfl, by split <;> omega, by split <;> omega⟩, cj_min2⟩
      · rintro _ ⟨way, rfl, h0, h1⟩
        exact ⟨rfl, a, s.2.2, n, way, rfl, rfl, hp.1, by omega, by omega, by omega, h0, h1⟩
      · rintro _ d ⟨way, rfl, h0, h1⟩ hd
        obtain ⟨xs, rfl, h⟩ := hd _ _ _ _ rfl
        exact ⟨s, xs, rfl, rfl, by rw [hnn]; exact h⟩
    · obtain ⟨ds, rs, rfl, rfl, hall⟩ := h
      rw [filt_true] at hall
      obtain ⟨rp, rfl, h⟩ := rows_of_all hall
      exact ⟨rp, rfl, h⟩
  rintro _ ⟨rp, rfl, hrp⟩
  -- the ticks at which the links are open
  let E2 : Dl := (E1 way).set 4 (some (.val (.lst (rp.map fun r => .lst (r.map D.int)))))
  refine sj_set (k1 := 0 + 60 * 2001) (k2 := (0 + 1) + 0 + (0 + (40 * 60 + 0))) (P := fun d => ∃ ro : List (List Nat), d = .lst (ro.map fun r => .lst (r.map nI)) ∧ All2 (fun (l : Lk) r => OpenT b.window.toNat l.2.2.2.toNat r) b.links ro) ?_ ?_
  · refine (EN.ej (en_lc (L := [14]) (PI := (· = b.links.map linkD)) (N := 60) (ke := 2001) (p := fun _ => true) (R := fun d r => ∃ (s : Lk) (xs : List Nat), d = linkD s ∧ r = .lst (xs.map nI) ∧ OpenT b.window.toNat s.2.2.2.toNat xs) (ij_list (ed_dget (x := .inr "links") (ed_var rfl) ed_str (bk_links b))) (fun ds e => by subst e; rw [List.length_map]; exact hnl) (fun i h => h) (by decide) (fun ds d e hd => gj_name) (fun ds d e hd => eb_yes) (fun ds d e hd _ => ?_))).mono (Nat.le_refl _) fun r h => ?_
    · subst e
      obtain ⟨l, hlk, rfl⟩ := List.mem_map.mp hd
      have ht := ok.links.times l hlk
      obtain ⟨o, ho⟩ : ∃ o : Nat, l.2.2.2 = (o : Int) := ⟨l.2.2.2.toNat, by omega⟩
      have hoo : l.2.2.2.toNat = o := by omega
      refine ej_le (k := 0 + (0 + (0 + ((0 + (0 + (0 + 1))) + 0))) + 2000) ?_ (by decide)
      refine ej_call (k := 0 + (0 + (0 + ((0 + (0 + (0 + 1))) + 0)))) (PA := fun ds => ∃ way : Int, ds = [.opq (.ref a), .int (o : Nat), .int (n : Nat), .int way]) ?_ ?_ ?_
      · refine ea_cons (P1 := (· = .opq (.ref a))) (PR := fun ds => ∃ way : Int, ds = [.int (o : Nat), .int (n : Nat), .int way]) (ed_var rfl) (fun _ _ => ?_) (fun x r e h => by obtain ⟨y, rfl⟩ := h; subst e; exact ⟨y, rfl⟩)
        refine ea_cons (P1 := (· = .int (o : Nat))) (PR := fun ds => ∃ way : Int, ds = [.int (n : Nat), .int way]) (by rw [← ho]; exact ed_op (ed_var rfl) ed_int (rj_ixT rfl)) (fun _ _ => ?_) (fun x r e h => by obtain ⟨y, rfl⟩ := h; subst e; exact ⟨y, rfl⟩)
        refine ea_cons (P1 := (· = .int (n : Nat))) (PR := fun ds => ∃ way : Int, ds = [.int way]) (ed_var rfl) (fun _ _ => ?_) (fun x r e h => by obtain ⟨y, rfl⟩ := h; subst e; exact ⟨y, rfl⟩)
        refine ea_cons (k1 := 0 + (0 + (0 + 1))) (k2 := 0) (P1 := fun d => ∃ way : Int, d = .int way) (PR := (· = [])) ?_ (fun _ _ => eda_nil) (fun x r h e => by obtain ⟨y, rfl⟩ := h; subst e; exact ⟨y, rfl⟩)
        exact ej_if (PT := fun _ => True) ((eb_test (ed_op (ed_var rfl) ed_int rj_B0)).mono (Nat.le_refl _) fun _ _ => trivial) (fun _ => ej_ex (ed_var rfl) ⟨way, rfl⟩) fun _ => (ej_take rfl (ed_var rfl) ed_int (by decide) (by decide)).mono (Nat.le_refl _) fun d h => by
          obtain ⟨r, rfl, _⟩ := h
          exact ⟨r, rfl⟩
      · rintro _ ⟨way, rfl⟩
        exact ⟨rfl, a, o, n, way, rfl, rfl, by omega, by omega, by omega⟩
      · rintro _ d ⟨way, rfl⟩ hd
        obtain ⟨xs, rfl, h⟩ := hd _ _ _ _ rfl
        exact ⟨l, xs, rfl, rfl, by rw [hnn, hoo]; exact h⟩
    · obtain ⟨ds, rs, rfl, rfl, hall⟩ := h
      rw [filt_true] at hall
      obtain ⟨ro, rfl, h⟩ := opens_of_all hall
      exact ⟨ro, rfl, h⟩
  rintro _ ⟨ro, rfl, hro⟩
  refine sj_tupVO (k1 := 0 + 1) (k2 := 0) (k3 := 0 + (40 * 60 + 0)) (P1 := fun d => ∃ r : Int, d = .int r ∧ 0 ≤ r ∧ r < 3) (P2 := (· = .lst [])) (by decide) rfl (ej_take rfl (ed_var rfl) ed_int (by decide) (by decide)) en_nil ?_
  rintro _ _ ⟨late, rfl, t0, t1⟩ rfl
  let eI : List Tick → Dl := fun ts => [some (.val (.opq (.ref a))), some (.val (bkD b)), some (.val (.int (n : Nat))), some (.val (.int way)), some (.val (.lst (rp.map fun r => .lst (r.map D.int)))), some (.val (.lst (ro.map fun r => .lst (r.map nI)))), some (.val (.int late)), some (.own (.lst (ts.map tickD))), none, none, none, none, none, none, none, none, none, none, none]
  have hrl : rp.length = b.stations.length := hrp.len.symm
  have hol : ro.length = b.links.length := hro.len.symm
  refine sj_for (L := [8]) (k1 := 0) (kb := 60) (k2 := 0) (N := 40) (PI := (· = (List.range (n : Int).toNat).map fun j => D.int (0 + (j : Nat)))) (ij_range1 (ed_var rfl) ⟨by omega, by omega⟩) (fun _ j δ' => ∃ ts : List Tick, δ' = eI ts ∧ ts.length = j ∧ ∀ (k : Nat) (t : Tick), ts[k]? = some t → t.1 = colR rp k ∧ t.2.1 = opnR ro k ∧ AgesOk b t.2.2) (fun _ => False) ?_ ?_ ?_ ?_
  · rintro _ rfl
    rw [List.length_map, List.length_range]; omega
  · rintro _ rfl
    exact ⟨[], rfl, rfl, fun k t e => by cases e⟩
  · rintro _ j d _ rfl hd ⟨ts, rfl, hts, hat⟩
    obtain ⟨hj, rfl⟩ := range_at hd
    have hj : j < n := by rw [Int.toNat_natCast] at hj; exact hj
    refine ⟨_, gj_name, ?_⟩
    refine sj_le (k := 60 * 1 + (0 + (0 + 0))) ?_ (by decide)
    refine sj_set (k1 := 60 * 1) (k2 := 0 + (0 + 0)) (P := fun d => ∃ xs : List Int, d = .lst (xs.map D.int) ∧ AgesOk b xs) ?_ ?_
    · refine ej_le (k := 0 + 60 * 1) ?_ (by decide)
      refine (EN.ej (en_lc (L := [14]) (PI := (· = b.links.map linkD)) (N := 60) (ke := 1) (p := fun _ => true) (R := fun _ r => ∃ x : Int, r = .int x ∧ 0 ≤ x ∧ x ≤ b.late) (ij_list (ed_dget (x := .inr "links") (ed_var rfl) ed_str (bk_links b))) (fun ds e => by subst e; rw [List.length_map]; exact hnl) (fun i h => h) (by decide) (fun ds d e hd => gj_name) (fun ds d e hd => eb_yes) (fun ds d e hd _ => ?_))).mono (Nat.le_refl _) fun r h => ?_
      · refine ej_le (k := (0 + (0 + ((0 + 1) + 0))) + 0) ?_ (by decide)
        refine ej_ixL (k1 := 0 + (0 + ((0 + 1) + 0))) (k2 := 0) (PI := fun _ => True) (PL := fun ds => ∃ r : Int, ds = [.int 0, .int b.late, .int r] ∧ 0 ≤ r ∧ r ≤ b.late) ?_ ?_ ?_
        · refine ej_lst (PA := fun ds => ∃ r : Int, ds = [.int 0, .int b.late, .int r] ∧ 0 ≤ r ∧ r ≤ b.late) ?_ (fun ds h => by obtain ⟨r, rfl, _⟩ := h; show 3 ≤ 1000000; decide) (fun ds h => ⟨ds, rfl, h⟩)
          refine ea_cons (P1 := (· = .int 0)) (PR := fun ds => ∃ r : Int, ds = [.int b.late, .int r] ∧ 0 ≤ r ∧ r ≤ b.late) ed_int (fun _ _ => ?_) (fun a r e h => by obtain ⟨x, rfl, h⟩ := h; exact ⟨x, by rw [e], h⟩)
          refine ea_cons (P1 := (· = .int b.late)) (PR := fun ds => ∃ r : Int, ds = [.int r] ∧ 0 ≤ r ∧ r ≤ b.late) (ed_dget (x := .inr "late") (ed_var rfl) ed_str (bk_late b)) (fun _ _ => ?_) (fun a r e h => by obtain ⟨x, rfl, h⟩ := h; exact ⟨x, by rw [e], h⟩)
          exact ea_cons (P1 := fun d => ∃ r : Int, d = .int r ∧ 0 ≤ r ∧ r < b.late + 1) (PR := (· = [])) (ej_take rfl (ed_var rfl) (ed_op (ed_dget (x := .inr "late") (ed_var rfl) ed_str (bk_late b)) ed_int rj_I0) (by omega) (by omega)) (fun _ _ => eda_nil) (fun a r h e => by obtain ⟨x, rfl, h0, h1⟩ := h; subst e; exact ⟨x, rfl, h0, by omega⟩)
        · rintro _ ⟨r, rfl, _⟩
          exact ej_ex (ed_var rfl) ⟨late, rfl, t0, t1⟩
        · rintro _ d ⟨r, rfl, r0, r1⟩ hd
          simp only [List.mem_cons, List.not_mem_nil, or_false] at hd
          rcases hd with rfl | rfl | rfl
          · exact ⟨0, rfl, Int.le_refl _, by omega⟩
          · exact ⟨b.late, rfl, by omega, Int.le_refl _⟩
          · exact ⟨r, rfl, r0, r1⟩
      · obtain ⟨ds, rs, rfl, rfl, hall⟩ := h
        rw [filt_true] at hall
        obtain ⟨xs, rfl, hxl, hx⟩ := ints_of_all hall
        exact ⟨xs, rfl, by rw [hxl, List.length_map], hx⟩
    rintro _ ⟨ag, rfl, hag⟩
    refine sj_set (k1 := 0) (k2 := 0 + 0) (P := (· = .tup ((opnR ro j).map nI))) ?_ ?_
    · refine ed_cb (eda_cons (EN.ej ((en_lcE (L := [15, 16]) (ds := enumD (ro.map fun r => D.lst (r.map nI))) (p := hereP j) (f := hereF) (δt := fun d => match d with | .tup [x, y] => (((wipeD (((eI ts).set 8 (some (.val (.int (j : Nat))))).set 9 (some (.val (.lst (ag.map D.int))))) [15, 16]).set 15 (some (.val x))).set 16 (some (.val y))) | _ => []) (ij_enum (eda_cons (ed_var rfl) eda_nil)) (fun k h => h) ?_ (fun d hd => ?_) (fun d hd => ?_) (fun d hd _ => ?_)).mono (Nat.le_refl _) fun r e => by rw [e, here_eq])) eda_nil) cj_tupL
      · rw [enum_map (z := []), List.length_map, List.length_range]; omega
      · rw [enum_map (z := [])] at hd
        obtain ⟨k, _, rfl⟩ := List.mem_map.mp hd
        exact gj_tup (gsj_cons gj_name (gsj_cons gj_name gsj_nil)) rfl
      · rw [enum_map (z := [])] at hd
        obtain ⟨k, _, rfl⟩ := List.mem_map.mp hd
        have : hereP j (D.tup [nI k, .lst ((ro.getD k []).map nI)]) = decide (j ∈ ro.getD k []) := any_nI
        rw [this]
        exact eb_test (ed_op (ed_var rfl) (ed_var rfl) rj_inN)
      · rw [enum_map (z := [])] at hd
        obtain ⟨k, _, rfl⟩ := List.mem_map.mp hd
        exact ed_cb (eda_cons (ed_var rfl) eda_nil) cj_int
    rintro _ rfl
    apply sj_last
    refine sj_app (i := 7) (k1 := 0) (k := 0) (ds := ts.map tickD) (P := (· = tickD (colR rp j, opnR ro j, ag))) rfl ?_ (by rw [List.length_map]; omega) ?_
    · refine ed_tup (eda_cons ?_ (eda_cons (ed_var rfl) (eda_cons ?_ eda_nil))) (by show 3 ≤ 1000000; decide)
      · refine ed_cb (eda_cons (EN.ej ((en_lcE (L := [17]) (ds := rp.map fun r => D.lst (r.map D.int)) (p := fun _ => true) (f := fun d => match d with | .lst l => l.getD j .non | _ => .non) (ij_list (ed_var rfl)) (fun k h => h) (by rw [List.length_map]; omega) (fun d hd => gj_name) (fun d hd => eb_yes) (fun d hd _ => ?_)).mono (Nat.le_refl _) fun r e => ?_)) eda_nil) cj_tupL
        · obtain ⟨r, hr, rfl⟩ := List.mem_map.mp hd
          obtain ⟨s, _, hpr⟩ : ∃ s, s ∈ b.stations ∧ PutRow b.window.toNat s.2.2 r := by
            obtain ⟨k, hk⟩ := List.getElem?_of_mem hr
            obtain ⟨s, h1, h2⟩ := all2_get hrp hk
            exact ⟨s, List.mem_of_getElem? h1, h2⟩
          have hlen : j < r.length := by rw [hpr.len, hnn]; exact hj
          have e1 : (r.map D.int)[j]? = some (.int r[j]) := by rw [List.getElem?_map, List.getElem?_eq_getElem hlen]; rfl
          have e2 : (r.map D.int).getD j .non = .int r[j] := by rw [List.getD_eq_getElem?_getD, e1]; rfl
          show ED _ K _ _ ((r.map D.int).getD j .non)
          rw [e2]
          exact ed_cb (eda_cons (ed_op (ed_var rfl) (ed_var rfl) (rj_ixL (atI_nat e1))) eda_nil) cj_int
        · rw [e, filt_true, List.map_map]
          refine congrArg D.lst ?_
          show _ = (colR rp j).map D.int
          unfold colR
          rw [List.map_map]
          refine List.map_congr_left fun r hr => ?_
          show (r.map D.int).getD j .non = .int (r.getD j 0)
          obtain ⟨s, _, hpr⟩ : ∃ s, s ∈ b.stations ∧ PutRow b.window.toNat s.2.2 r := by
            obtain ⟨k, hk⟩ := List.getElem?_of_mem hr
            obtain ⟨s, h1, h2⟩ := all2_get hrp hk
            exact ⟨s, List.mem_of_getElem? h1, h2⟩
          have hlen : j < r.length := by rw [hpr.len, hnn]; exact hj
          rw [List.getD_eq_getElem?_getD, List.getElem?_map, List.getElem?_eq_getElem hlen, List.getD_eq_getElem?_getD, List.getElem?_eq_getElem hlen]
          rfl
      · refine ed_cb (eda_cons (EN.ej ((en_lcE (L := [18]) (ds := ag.map D.int) (p := fun _ => true) (f := fun d => d) (ij_list (ed_var rfl)) (fun k h => h) (by rw [List.length_map, hag.len]; omega) (fun d hd => gj_name) (fun d hd => eb_yes) (fun d hd _ => ?_)).mono (Nat.le_refl _) fun r e => by rw [e, filt_true, List.map_id'])) eda_nil) cj_tupL
        obtain ⟨x, hx, rfl⟩ := List.mem_map.mp hd
        exact ed_cb (eda_cons (ed_var rfl) eda_nil) cj_int
    rintro _ rfl
    refine sj_nextW (δ' := eI (ts ++ [(colR rp j, opnR ro j, ag)])) ?_ ⟨_, rfl, by rw [List.length_append, hts]; rfl, fun k t e => ?_⟩
    · show Fewer (eI _) _
      have e : (ts ++ [(colR rp j, opnR ro j, ag)]).map tickD = ts.map tickD ++ [tickD (colR rp j, opnR ro j, ag)] := by rw [List.map_append]; rfl
      show Fewer [some (.val (.opq (.ref a))), some (.val (bkD b)), some (.val (.int (n : Nat))), some (.val (.int way)), some (.val (.lst (rp.map fun r => .lst (r.map D.int)))), some (.val (.lst (ro.map fun r => .lst (r.map nI)))), some (.val (.int late)), some (.own (.lst ((ts ++ [(colR rp j, opnR ro j, ag)]).map tickD))), none, none, none, none, none, none, none, none, none, none, none] _
      rw [e]
      exact .keep (.keep (.keep (.keep (.keep (.keep (.keep (.keep (.drop (.drop (.drop (.drop (.drop (.drop (.drop (.drop (.drop (.drop (.drop .nil))))))))))))))))))
    · by_cases hk : k < ts.length
      · rw [List.getElem?_append_left hk] at e
        exact hat k t e
      · rw [List.getElem?_append_right (by omega)] at e
        have hk0 : k - ts.length = 0 := by
          have := (List.getElem?_eq_some_iff.mp e).1
          simp at this
          omega
        rw [hk0] at e
        cases e
        have : k = j := by omega
        subst this
        exact ⟨rfl, rfl, hag⟩
  · rintro _ _ rfl (⟨ts, rfl, hts, hat⟩ | z)
    rotate_left
    · exact z.elim
    rw [List.length_map, List.length_range, Int.toNat_natCast] at hts
    apply sj_frz 7 rfl
    apply sj_retP (P := (· = .lst (ts.map tickD))) (ed_var rfl)
    rintro _ rfl
    exact .inl ⟨_, rfl, ts, rfl, rp, ro, hrp, hro, by rw [hnn]; exact hts, hat⟩
end
end DN

/-! weathers drawn -/
namespace DN
open PySem PySem.Spec PyProof.Rows L2
variable [Tb]
section
variable {ρ : Rh} {K : PySem.W.Frag} {E : XK} {δ : Dl} {ta tb : TE} {u : TS} {k1 k2 k3 : Nat} {P1 P2 : D → Prop} {PO : Out → Prop} {i j : Nat}
theorem sj_parVO (hij : i ≠ j) (ha : EJ ρ K ta δ k1 P1) (hb : EN ρ K tb δ k2 P2) (hn : ∀ a b, P1 a → P2 b → SJ ρ K E u ((δ.set i (some (.val a))).set j (some (.own b))) k3 PO) : SJ ρ K E (tSeq (tPar i j (tCons ta (tCons tb tNil))) u) δ (k1 + k2 + k3) PO := .mk fun G0 H0 G H σ m D w hm q =>
  ha.run G0 H0 G H σ m _ w (by omega) fun a v G1 H1 m1 pa w1 g1 l1 av => hb.run G0 H0 G1 H1 σ m1 _ w1 (by omega) fun b r o2 G2 H2 m2 pb w2 g2 l2 hr ho2 ob hg2 => by
    have w4 := w2.set (i := i) (av.mono g2.gg)
    refine ⟨_, _, rfl, (hn a b pa pb).run G0 H0 G2 H2 _ m2 D (w4.setOwn (i := j) (w1.fresh hr) ho2 ob hg2 fun l e hjl hl => ?_) (by omega) fun o po => (q o po).le (by omega)⟩
    by_cases hil : i = l
    · subst hil
      by_cases hs : i < δ.length
      · rw [List.getElem?_set_self hs] at hl
        cases hl
      · rw [List.getElem?_eq_none (by rw [List.length_set]; omega)] at hl
        cases hl
    · rw [List.getElem?_set_ne hil] at hl ⊢
      exact w1.notOwn hr hl
end
/-- a weather of so many whole windows -/
def WthOk (b : Bk) (n : Nat) (ts : List Tick) : Prop := ∃ wss : List (List Tick), ts = wss.flatten ∧ wss.length = n ∧ ∀ ws ∈ wss, WinOk b ws
section
variable {P : Program} {w : World} {K : PySem.W.Frag} {mg : Str → Option Value} {base : Heap}
theorem wins_of_all {b : Bk} {α : Type} : ∀ {ds : List α} {rs : List D}, All2 (fun _ r => ∃ ts : List Tick, r = .lst (ts.map tickD) ∧ WinOk b ts) ds rs → ∃ ws : List (List Tick), rs = ws.map (fun t => .lst (t.map tickD)) ∧ ws.length = ds.length ∧ ∀ x ∈ ws, WinOk b x
  | [], _, .nil => ⟨[], rfl, rfl, fun x hx => by cases hx⟩
  | _ :: _, _, .cons h t => by
    obtain ⟨ws, rfl, hl, hx⟩ := wins_of_all t
    obtain ⟨x, rfl, h0⟩ := h
    refine ⟨x :: ws, rfl, by rw [List.length_cons, hl]; rfl, fun y hy => ?_⟩
    rcases List.mem_cons.mp hy with rfl | hy
    · exact h0
    · exact hx y hy
theorem ej_window {a : Addr} {b : Bk} {δ : Dl} {ta tb : TE} {EE : XK} (ha : ED (.some a) K ta δ (.opq (.ref a))) (hb : ED (.some a) K tb δ (bkD b)) (ok : RdOk b) : EJ (.some a) K (tCall (spWin K) [] EE (tCons ta (tCons tb tNil))) δ (0 + 1000000) (fun r => ∃ ts : List Tick, r = .lst (ts.map tickD) ∧ WinOk b ts) :=
  ej_callS (n := 2) (PA := (· = [.opq (.ref a), bkD b])) (eda_cons ha (eda_cons hb eda_nil)) (fun vs H Q (h : spWin0 K b vs H Q _) => ⟨b, h⟩) (fun ds e => ⟨by subst e; rfl, a, e, rfl, ok⟩) (fun ds d e h => h)
abbrev spWth0 (K : PySem.W.Frag) (b : Bk) (n : Nat) : Sp := spJ K 3 (fun ρ ds => ∃ a, ds = [.opq (.ref a), bkD b, .int (n : Nat)] ∧ ρ = .some a ∧ RdOk b ∧ n ≤ 100) 200000000 (fun _ r => ∃ ts : List Tick, r = .lst (ts.map tickD) ∧ WthOk b n ts)
def spWth (K : PySem.W.Frag) : Sp := fun vs H Q E => ∃ b n, spWth0 K b n vs H Q E
theorem ok_weather {f : Addr} {fd : FuncData} (F : Fun K "_law_weather" "_law_weather" s__law_weather f fd) (T : Txv K mg) (c__law_take : C8.Cal P w K mg base 1 "_law_take" (spTake K) []) (c__law_of : C8.Cal P w K mg base 2 "_law_of" (spOf K) []) (c__law_window : C8.Cal P w K mg base 4 "_law_window" (spWin K) []) : FnOk P w K mg base CX0 5 f fd ["pot", "own", "windows"] (spWth K) := by
  refine F.ok sc__law_weather (fun vs H Q E h => by obtain ⟨_, _, h⟩ := h; exact spJ_len h) (fun cdv A outer s H vs Q E hr h => ?_)
  obtain ⟨b, n, h⟩ := h
  refine ⟨_, (pss_cons (ps_par (i := 3) (j := 4) (by rfl) sc__law_weather.nd rfl rfl (by decide) rfl rfl (pa_cons (pe_lc (own := [("lap", 5)]) rfl sc__law_weather.nd (pi_range1 (by rfl) T.b_range (pa_cons (pe_op op_add pe_int (C8.pe_c c__law_take hr (by omega) (by rfl) (pa_cons (pv 0) (pa_cons pe_int pa_nil)))) pa_nil)) (blkOk_by (N := ["pot", "own", "windows", "some", "found", "lap"]) (sc := defScope s__law_weather) (by decide +kernel)) (fun _ _ _ _ _ => (pg_name (i := 5) sc__law_weather.nd rfl (by first | exact Or.inl rfl | exact Or.inr rfl))) (fun _ _ _ _ _ => pts_nil) (fun _ _ _ _ _ => (C8.pe_c c__law_window hr (by omega) (by rfl) (pa_cons (pv 0) (pa_cons (pv 1) pa_nil))))) (pa_cons (pe_lst pa_nil) pa_nil)) (by rfl))
 (pss_cons (ps_for PassesOwn.never rfl (pi_range1 (by rfl) T.b_range (pa_cons (pv 2) pa_nil)) (pg_name (i := 5) sc__law_weather.nd rfl (by first | exact Or.inl rfl | exact Or.inr rfl))
  (pss_one (ps_expr (pe_bm PySem.F.plainAttrs_list PySem.F.slot_list_extend PySem.F.type_list_extend mt_extend (pv 4) (pa_cons (pe_ifExp (pt_cmpR op_eq (C8.pe_c c__law_take hr (by omega) (by rfl) (pa_cons (pv 0) (pa_cons pe_int pa_nil))) pe_int (by first | exact nomark _ | rfl)) (C8.pe_c c__law_window hr (by omega) (by rfl) (pa_cons (pv 0) (pa_cons (pv 1) pa_nil))) (C8.pe_c c__law_of hr (by omega) (by rfl) (pa_cons (pv 0) (pa_cons (pv 3) pa_nil)))) pa_nil)))))
 (pss_one (ps_ret (pv 4))))), body_of (n := 3) (fun ρ ds hl hp => ?_) h⟩
  obtain ⟨a, rfl, rfl, ok, hn⟩ := hp
  try dsimp only [cxOf, Cx.nox, Cx.wish]
  refine ⟨((0 + (0 + 1)) + 3 * 1000000) + 0 + (0 + (100 * 1000010 + 0)), by decide, ?_⟩
  refine sj_parVO (k1 := (0 + (0 + 1)) + 3 * 1000000) (k2 := 0) (k3 := 0 + (100 * 1000010 + 0)) (P1 := fun d => ∃ ws : List (List Tick), d = .lst (ws.map fun t => .lst (t.map tickD)) ∧ 1 ≤ ws.length ∧ ws.length ≤ 3 ∧ ∀ x ∈ ws, WinOk b x) (P2 := (· = .lst [])) (by decide) ?_ en_nil ?_
  · refine (EN.ej (en_lc (L := [5]) (PI := fun ds => ∃ m : Int, (1 ≤ m ∧ m ≤ 3) ∧ ds = (List.range m.toNat).map fun j => D.int (0 + (j : Nat))) (N := 3) (ke := 1000000) (p := fun _ => true) (R := fun _ r => ∃ ts : List Tick, r = .lst (ts.map tickD) ∧ WinOk b ts) (ij_range1P (PI := fun m => 1 ≤ m ∧ m ≤ 3) (ej_1take rfl (ed_var rfl) ed_int (by decide) (by decide) (by decide) (by decide)) (fun n h => by omega)) (fun ds e => by obtain ⟨m, hm, rfl⟩ := e; rw [List.length_map, List.length_range]; omega) (fun i h => h) (by decide) (fun ds d e hd => gj_name) (fun ds d e hd => eb_yes) (fun ds d e hd _ => ?_))).mono (Nat.le_refl _) fun r h => ?_
    · exact ej_le (ej_window (ed_var rfl) (ed_var rfl) ok) (by decide)
    · obtain ⟨ds, rs, rfl, ⟨m, hm, rfl⟩, hall⟩ := h
      rw [filt_true] at hall
      obtain ⟨ws, rfl, hwl, hx⟩ := wins_of_all hall
      rw [List.length_map, List.length_range] at hwl
      exact ⟨ws, rfl, by omega, by omega, hx⟩
  rintro _ _ ⟨sw, rfl, s0, s1, hsw⟩ rfl
  let eI : List Tick → Dl := fun ts => [some (.val (.opq (.ref a))), some (.val (bkD b)), some (.val (.int (n : Nat))), some (.val (.lst (sw.map fun t => .lst (t.map tickD)))), some (.own (.lst (ts.map tickD))), none]
  refine sj_for (L := [5]) (k1 := 0) (kb := 1000010) (k2 := 0) (N := 100) (PI := (· = (List.range (n : Int).toNat).map fun j => D.int (0 + (j : Nat)))) (ij_range1 (ed_var rfl) ⟨by omega, by omega⟩) (fun _ j δ' => ∃ wss : List (List Tick), δ' = eI wss.flatten ∧ wss.length = j ∧ (∀ ws ∈ wss, WinOk b ws) ∧ wss.flatten.length ≤ 40 * j) (fun _ => False) ?_ ?_ ?_ ?_
  · rintro _ rfl
    rw [List.length_map, List.length_range]; omega
  · rintro _ rfl
    exact ⟨[], rfl, rfl, (fun ws h => by cases h), Nat.le_refl _⟩
  · rintro _ j d _ rfl hd ⟨wss, rfl, hl, hw, hf⟩
    obtain ⟨hj, rfl⟩ := range_at hd
    have hj : j < n := by rw [Int.toNat_natCast] at hj; exact hj
    refine ⟨_, gj_name, ?_⟩
    apply sj_last
    refine sj_le (k := (1 + (1000000 + 1)) + 0) ?_ (by decide)
    refine sj_extP (i := 4) (k1 := 1 + (1000000 + 1)) (k := 0) (ds := wss.flatten.map tickD) (PE := fun es => ∃ ws : List Tick, es = ws.map tickD ∧ WinOk b ws ∧ ws.length ≤ 40) rfl ?_ ?_ ?_
    · have fin : ∀ d, (∃ ts : List Tick, d = D.lst (ts.map tickD) ∧ WinOk b ts) → ∃ es, d = .lst es ∧ ∃ ws : List Tick, es = ws.map tickD ∧ WinOk b ws ∧ ws.length ≤ 40 := fun d h => by
        obtain ⟨ts, rfl, h⟩ := h
        refine ⟨_, rfl, ts, rfl, h, ?_⟩
        obtain ⟨rp, ro, h⟩ := h
        have := ok.w
        rw [h.len]; omega
      refine ej_if (k1 := 1) (k2 := 1000000) (k3 := 1) (PT := fun _ => True) ?_ (fun _ => ?_) fun _ => ?_
      · refine et_test ?_
        refine ej_le (k := (0 + 1) + 0) ?_ (by decide)
        exact ej_op (P1 := fun d => ∃ r : Int, d = .int r ∧ 0 ≤ r ∧ r < 2) (ej_take rfl (ed_var rfl) ed_int (by decide) (by decide)) (fun _ _ => ed_int) fun x y hx hy => by
          obtain ⟨r, rfl, _⟩ := hx
          subst hy
          exact ⟨_, ⟨_, rfl, trivial⟩, rj_eqI⟩
      · exact ((ej_window (ed_var rfl) (ed_var rfl) ok).mono (by decide) fin)
      · refine (ej_ofL rfl (ed_var rfl) (ed_var rfl) (by rw [List.length_map]; omega) (by rw [List.length_map]; omega)).mono (by decide) fun d h => fin d ?_
        obtain ⟨ws, hws, rfl⟩ := List.mem_map.mp h
        exact ⟨ws, rfl, hsw ws hws⟩
    · rintro _ ⟨ws, rfl, _, h⟩
      rw [List.length_map, List.length_map]; omega
    · rintro _ ⟨ws, rfl, hok, h⟩
      refine sj_nextW (δ' := eI (wss ++ [ws]).flatten) ?_ ⟨wss ++ [ws], rfl, by rw [List.length_append, hl]; rfl, fun x hx => ?_, ?_⟩
      · have e : (wss ++ [ws]).flatten.map tickD = wss.flatten.map tickD ++ ws.map tickD := by rw [List.flatten_append, List.map_append]; simp
        show Fewer [some (.val (.opq (.ref a))), some (.val (bkD b)), some (.val (.int (n : Nat))), some (.val (.lst (sw.map fun t => .lst (t.map tickD)))), some (.own (.lst ((wss ++ [ws]).flatten.map tickD))), none] _
        rw [e]
        exact .keep (.keep (.keep (.keep (.keep (.drop .nil)))))
      · rcases List.mem_append.mp hx with hx | hx
        · exact hw x hx
        · rw [List.mem_singleton.mp hx]; exact hok
      · have e : [ws].flatten = ws := by simp
        rw [List.flatten_append, List.length_append, e]
        omega
  · rintro _ _ rfl (⟨wss, rfl, hl, hw, hf⟩ | z)
    rotate_left
    · exact z.elim
    rw [List.length_map, List.length_range, Int.toNat_natCast] at hl
    apply sj_frz 4 rfl
    apply sj_retP (P := (· = .lst (wss.flatten.map tickD))) (ed_var rfl)
    rintro _ rfl
    exact .inl ⟨_, rfl, _, rfl, wss, rfl, hl, hw⟩
end
end DN

/-! values of any kind, held against what a book may have -/
namespace DN
open PySem PySem.Spec PyProof.Rows L2
variable [Tb]
def isTupD : D → Bool
  | .tup _ => true
  | _ => false
def tyA : D → Option String
  | .lst _ => some "list"
  | .dct _ => some "dict"
  | d => tyD d
section
variable {ρ : Rh} {K : PySem.W.Frag} {δ : Dl} {te ta tb tc : TE} {d : D} {i : Nat}
theorem at_tyA {G H : Hp} (s : Same G H) {v : V} {d : D} {t : String} (h : At K G v d) (e : tyA d = some t) : TyX K H v (.type t) := by
  cases h with
  | non => exact at_ty s .non e
  | bl b => exact at_ty s (.bl b) e
  | int b => exact at_ty s (.int b) e
  | str b => exact at_ty s (.str b) e
  | tup h1 h2 => exact at_ty s (.tup h1 h2) e
  | lst ha _ => cases e; exact .base (.lst (s _ _ ha))
  | dct ha _ => cases e; exact .base (.dK (s _ _ ha))
  | ins _ _ => cases e
  | exc _ _ _ => cases e
  | opq _ => cases e
  | scr _ => cases e
  | cau _ _ => cases e
theorem cj_isiA {t T : String} {x : Bool} (h : tyA d = some t) (e : kitB t T = some x) : CJ K (rIsi K) [d, .opq (.ty T)] (.bl x) := .mk fun xs G H Q hx s q => by
  cases hx with
  | cons h1 hx =>
    cases hx with
    | cons h2 hx =>
      cases hx
      cases h2
      exact ⟨_, .ty T, .type t, .type T, x, rfl, .ty T, at_tyA s h1 h, kit_ty e, q _ G H (Gd.refl s) (.bl _)⟩
def isStrD : D → Bool
  | .str _ => true
  | _ => false
theorem ty_casesA {d : D} (h : (tyA d).isSome = true) : ∃ t b1 b2, tyA d = some t ∧ kitB t "int" = some b1 ∧ (b1 = true → kitB t "bool" = some b2) ∧ (b1 && !b2) = isIntD d ∧ kitB t "tuple" = some (isTupD d) ∧ kitB t "str" = some (isStrD d) := by
  cases d with
  | non => exact ⟨_, false, false, rfl, by decide +kernel, (fun e => nomatch e), rfl, by decide +kernel, by decide +kernel⟩
  | bl b => exact ⟨_, true, true, rfl, by decide +kernel, (fun _ => by decide +kernel), rfl, by show kitB "bool" "tuple" = some false; decide +kernel, by show kitB "bool" "str" = some false; decide +kernel⟩
  | int b => exact ⟨_, true, false, rfl, by decide +kernel, (fun _ => by decide +kernel), rfl, by show kitB "int" "tuple" = some false; decide +kernel, by show kitB "int" "str" = some false; decide +kernel⟩
  | str b => exact ⟨_, false, false, rfl, by decide +kernel, (fun e => nomatch e), rfl, by show kitB "str" "tuple" = some false; decide +kernel, by show kitB "str" "str" = some true; decide +kernel⟩
  | tup l => exact ⟨_, false, false, rfl, by decide +kernel, (fun e => nomatch e), rfl, by show kitB "tuple" "tuple" = some true; decide +kernel, by show kitB "tuple" "str" = some false; decide +kernel⟩
  | lst l => exact ⟨_, false, false, rfl, by decide +kernel, (fun e => nomatch e), rfl, by show kitB "list" "tuple" = some false; decide +kernel, by show kitB "list" "str" = some false; decide +kernel⟩
  | dct l => exact ⟨_, false, false, rfl, by decide +kernel, (fun e => nomatch e), rfl, by show kitB "dict" "tuple" = some false; decide +kernel, by show kitB "dict" "str" = some false; decide +kernel⟩
  | ins a l => cases h
  | exc a l => cases h
  | opq l => cases h
  | scr l => cases h
  | cau a p c l => cases h
theorem ed_isTup (h : (tyA d).isSome = true) (he : ED ρ K te δ d) : ED ρ K (tCB (rIsi K) (tCons te (tCons (tC (.ty "tuple")) tNil))) δ (.bl (isTupD d)) := by
  obtain ⟨t, _, _, e1, _, _, _, e5, _⟩ := ty_casesA h
  exact ed_cb (eda_cons he (eda_cons ed_opq eda_nil)) (cj_isiA e1 e5)
theorem ed_isStr (h : (tyA d).isSome = true) (he : ED ρ K te δ d) : ED ρ K (tCB (rIsi K) (tCons te (tCons (tC (.ty "str")) tNil))) δ (.bl (isStrD d)) := by
  obtain ⟨t, _, _, e1, _, _, _, _, e6⟩ := ty_casesA h
  exact ed_cb (eda_cons he (eda_cons ed_opq eda_nil)) (cj_isiA e1 e6)
theorem bool_ret {a b : Bool} (h : ED ρ K te δ (.bl a)) (e : a = b) : ED ρ K te δ (.bl b) := by rw [← e]; exact h
end
section
variable {P : Program} {w : World} {K : PySem.W.Frag} {mg : Str → Option Value} {base : Heap}
abbrev spIsIntA (K : PySem.W.Frag) : Sp := spJ K 1 (fun _ ds => ∃ d, ds = [d] ∧ (tyA d).isSome = true) 0 (fun ds r => ∀ d, ds = [d] → r = .bl (isIntD d))
theorem ok_isIntA {f : Addr} {fd : FuncData} (F : Fun K "is_integer" "is_integer" s_is_integer f fd) (T : Txv K mg) : FnOk P w K mg base CX0 1 f fd ["value"] (spIsIntA K) := by
  refine F.ok sc_is_integer (fun vs H Q E h => spJ_len h) (fun cdv A outer s H vs Q E hr h => ?_)
  refine ⟨_, (pss_one (ps_ret (pe_and (pe_callB call_isi (by rfl) T.b_isinstance (by decide +kernel) (pa_cons (pv 0) (pa_cons (pe_bltn (v := .ty "int") (by rfl) T.b_int (by decide +kernel) rfl) pa_nil))) (pe_one (pe_not (pe_callB call_isi (by rfl) T.b_isinstance (by decide +kernel) (pa_cons (pv 0) (pa_cons (pe_bltn (v := .ty "bool") (by rfl) T.b_bool (by decide +kernel) rfl) pa_nil)))))))), body_of (n := 1) (fun ρ ds hl hp => ?_) h⟩
  obtain ⟨d, rfl, hd⟩ := hp
  obtain ⟨t, b1, b2, e1, e2, e3, e4, _, _⟩ := ty_casesA hd
  try dsimp only [cxOf, Cx.nox, Cx.wish]
  apply ex_k
  · apply sj_retP (P := (· = .bl (isIntD d)))
    · rw [← e4]
      exact ed_andV (ed_cb (eda_cons (ed_var rfl) (eda_cons ed_opq eda_nil)) (cj_isiA e1 e2)) fun e => ed_notV (ed_cb (eda_cons (ed_var rfl) (eda_cons ed_opq eda_nil)) (cj_isiA e1 (e3 e)))
    rintro _ rfl
    exact .inl ⟨_, rfl, fun d' e => by cases e; rfl⟩
  · decide
abbrev spBetA (K : PySem.W.Frag) : Sp := spJ K 3 (fun _ ds => ∃ d lo hi, ds = [d, .int lo, .int hi] ∧ (tyA d).isSome = true) 0 (fun ds r => ∀ d lo hi, ds = [d, .int lo, .int hi] → r = .bl (betD lo hi d))
theorem ok_betA {f : Addr} {fd : FuncData} (F : Fun K "is_between" "is_between" s_is_between f fd) (T : Txv K mg) (c_is_integer : C8.Cal P w K mg base 1 "is_integer" (spIsIntA K) []) : FnOk P w K mg base CX0 2 f fd ["value", "least", "most"] (spBetA K) := by
  refine F.ok sc_is_between (fun vs H Q E h => spJ_len h) (fun cdv A outer s H vs Q E hr h => ?_)
  refine ⟨_, (pss_one (ps_ret (pe_and (C8.pe_c c_is_integer hr (by omega) (by rfl) (pa_cons (pv 0) pa_nil)) (pe_one (pe_chain op_le op_le (pv 1) (pv 0) (pv 2)))))), body_of (n := 3) (fun ρ ds hl hp => ?_) h⟩
  obtain ⟨d, lo, hi, rfl, hd⟩ := hp
  try dsimp only [cxOf, Cx.nox, Cx.wish]
  apply ex_k
  · apply sj_retP (P := (· = .bl (betD lo hi d)))
    · have hb : betD lo hi d = (isIntD d && betD lo hi d) := by cases d <;> rfl
      rw [hb]
      apply ed_andV
      · exact ej_call (PA := (· = [d])) (eda_cons (ed_var rfl) eda_nil) (fun ds e => ⟨by subst e; rfl, d, e, hd⟩) (fun ds r e h => h d e)
      · intro e
        cases d with
        | int n => exact ed_leLe (ed_var rfl) (ed_var rfl) (ed_var rfl)
        | _ => cases e
    rintro _ rfl
    exact .inl ⟨_, rfl, fun d' lo' hi' e => by cases e; rfl⟩
  · decide
theorem ed_betA {ρ : Rh} {δ : Dl} {ta tb tc : TE} {E : XK} {d : D} {lo hi : Int} (hd : (tyA d).isSome = true) (ha : ED ρ K ta δ d) (hb : ED ρ K tb δ (.int lo)) (hc : ED ρ K tc δ (.int hi)) : ED ρ K (tCall (spBetA K) [] E (tCons ta (tCons tb (tCons tc tNil)))) δ (.bl (betD lo hi d)) :=
  ej_call (PA := (· = [d, .int lo, .int hi])) (eda_cons ha (eda_cons hb (eda_cons hc eda_nil))) (fun ds e => ⟨by subst e; rfl, _, _, _, e, hd⟩) (fun ds r e h' => h' _ _ _ e)
end
end DN

/-! ticks of any kind -/
namespace DN
open PySem PySem.Spec PyProof.Rows L2
variable [Tb]
abbrev s_is_row : Stmt := topS 11
theorem sc_is_row : FnScope ["value", "many", "least", "most", "part"] ["value", "many", "least", "most"] (defScope s_is_row) := ⟨rfl, rfl, rfl, by decide +kernel, rfl, by decide +kernel, by decide +kernel⟩
abbrev s_is_opens : Stmt := topS 19
theorem sc_is_opens : FnScope ["value", "many", "number"] ["value", "many"] (defScope s_is_opens) := ⟨rfl, rfl, rfl, by decide +kernel, rfl, by decide +kernel, by decide +kernel⟩
abbrev s_is_ascending : Stmt := topS 12
theorem sc_is_ascending : FnScope ["values", "one", "other"] ["values"] (defScope s_is_ascending) := ⟨rfl, rfl, rfl, by decide +kernel, rfl, by decide +kernel, by decide +kernel⟩
abbrev s_is_tick : Stmt := topS 18
theorem sc_is_tick : FnScope ["book", "value", "puts", "opens", "ages", "many"] ["book", "value"] (defScope s_is_tick) := ⟨rfl, rfl, rfl, by decide +kernel, rfl, by decide +kernel, by decide +kernel⟩
def rowB (m : Nat) (lo hi : Int) : D → Bool
  | .tup l => decide (l.length = m) && (l.map (betD lo hi)).all id
  | _ => false
def ascI (xs : List Int) : Bool := ((xs.zip (xs.drop 1)).map fun p => decide (p.1 < p.2)).all id
def intsD : List D → List Int
  | [] => []
  | .int i :: r => i :: intsD r
  | _ :: r => 0 :: intsD r
def opnB (m : Nat) : D → Bool
  | .tup l => (l.map (betD 0 ((m : Nat) - 1))).all id && ascI (intsD l)
  | _ => false
def tick3 (ns nl : Nat) (late : Int) (a o g : D) : Bool := rowB ns 0 1000000 a && (opnB nl o && rowB nl 0 late g)
def tickB (b : Bk) : D → Bool
  | .tup [a, o, g] => tick3 b.stations.length b.links.length b.late a o g
  | _ => false
structure RowAny (d : D) : Prop where
  ty : (tyA d).isSome = true
  tup : ∀ l, d = .tup l → l.length ≤ 100000 ∧ ∀ x ∈ l, (tyA x).isSome = true
structure TickAny (d : D) : Prop where
  ty : (tyA d).isSome = true
  len : ∀ l, d = .tup l → l.length ≤ 1000
  tup : ∀ a o g, d = .tup [a, o, g] → RowAny a ∧ RowAny o ∧ RowAny g
theorem ints_of {lo hi : Int} : ∀ {l : List D}, (l.map (betD lo hi)).all id = true → l = (intsD l).map D.int ∧ ∀ x ∈ intsD l, lo ≤ x ∧ x ≤ hi
  | [], _ => ⟨rfl, fun x hx => by cases hx⟩
  | d :: r, h => by
    rw [List.map_cons, List.all_cons, Bool.and_eq_true] at h
    obtain ⟨i1, i2⟩ := ints_of (l := r) h.2
    have h1 : betD lo hi d = true := h.1
    cases d with
    | int n =>
      have h1' : (decide (lo ≤ n) && decide (n ≤ hi)) = true := h1
      rw [Bool.and_eq_true, decide_eq_true_eq, decide_eq_true_eq] at h1'
      refine ⟨by show D.int n :: r = D.int n :: (intsD r).map D.int; rw [← i1], fun x hx => ?_⟩
      rcases List.mem_cons.mp hx with rfl | hx
      · exact h1'
      · exact i2 x hx
    | _ => cases h1
theorem intsD_map : ∀ xs : List Int, intsD (xs.map D.int) = xs
  | [] => rfl
  | x :: r => by
    show x :: intsD (r.map D.int) = x :: r
    rw [intsD_map r]
theorem zip_ints (ns : List Int) : ((ns.map D.int).zip ((ns.map D.int).drop 1)).map (fun p => D.tup [p.1, p.2]) = (ns.zip (ns.drop 1)).map fun p => D.tup [.int p.1, .int p.2] := by
  rw [← List.map_drop, List.zip_map, List.map_map]
  rfl
section
variable {ρ : Rh} {K : PySem.W.Frag} {δ : Dl} {te ta tb : TE} {i j : Nat} {b : Bk} {C : Addr}
theorem ed_ascI {ns : List Int} (h : ED ρ K te δ (.tup (ns.map D.int))) (hl : ns.length ≤ 100000) (hi : i < δ.length) (hj : j < δ.length) (hij : i ≠ j) :
    ED ρ K (tCB (rAll K) (tCons (tLc (RZ.iZipA K (tCons te (tCons (tSl (rSlA K) te (tPart (tC (.int 1))) tNoPart) tNil))) (gTup K 2 (gCons (gName i) (gCons (gName j) gNil))) tYes (tOp (rI0 fun i j => V.bl (decide (i < j))) (tVar i) (tVar j)) [i, j]) tNil)) δ (.bl (ascI ns)) := by
  unfold ascI
  refine ed_cb (eda_cons (EN.ej ?_) eda_nil) (cj_all (bs := (ns.zip (ns.drop 1)).map fun p => decide (p.1 < p.2)))
  have hz : IJ ρ K (RZ.iZipA K (tCons te (tCons (tSl (rSlA K) te (tPart (tC (.int 1))) tNoPart) tNil))) δ 0 (· = (ns.zip (ns.drop 1)).map fun p => D.tup [.int p.1, .int p.2]) := by
    rw [← zip_ints]
    refine ij_zipT (eda_cons h (eda_cons ?_ eda_nil))
    have := ed_slA (lo := some 1) (hi := none) h (eo_some ed_int) eo_none
    rw [cut_from (by decide)] at this
    exact this
  refine (en_lcE (L := [i, j]) (ds := (ns.zip (ns.drop 1)).map fun p => D.tup [.int p.1, .int p.2]) (p := fun _ => true) (f := fun d => match d with | .tup [.int x, .int y] => .bl (decide (x < y)) | _ => .non) (δt := fun d => match d with | .tup [x, y] => (((wipeD δ [i, j]).set i (some (.val x))).set j (some (.val y))) | _ => []) hz (fun k h => h) (by rw [List.length_map, List.length_zip]; omega) (fun d hd => ?_) (fun d _ => eb_yes) (fun d hd _ => ?_)).mono (Nat.le_refl _) fun r e => ?_
  · obtain ⟨p, hp, rfl⟩ := List.mem_map.mp hd
    exact gj_tup (gsj_cons gj_name (gsj_cons gj_name gsj_nil)) rfl
  · obtain ⟨p, hp, rfl⟩ := List.mem_map.mp hd
    refine ed_op (ed_var ?_) (ed_var ?_) rj_B0
    · show (((wipeD δ [i, j]).set i (some (.val (.int p.1)))).set j (some (.val (.int p.2))))[i]? = _
      rw [List.getElem?_set_ne (fun z => hij z.symm), List.getElem?_set_self (by rw [wipeD_len]; exact hi)]
    · show (((wipeD δ [i, j]).set i (some (.val (.int p.1)))).set j (some (.val (.int p.2))))[j]? = _
      rw [List.getElem?_set_self (by rw [List.length_set, wipeD_len]; exact hj)]
  · rw [e, filt_true, List.map_map, List.map_map]
    rfl
theorem ed_lenB {E : XK} (h : ED ρ K te δ (.ins C (bookF b))) (hn : b.stations.length ≤ 1000) : ED ρ K (tCB (rLenO C (spLenB K C) E) (tCons te tNil)) δ (.int (b.stations.length : Nat)) := .mk fun G0 H0 G H σ m Q w hm q =>
  h.run G0 H0 G H σ m _ w (by omega) fun d v G1 H1 m1 pd w1 g1 l1 x => by
    subst pd
    have x' := x
    cases x with
    | @ins a _ dx fs _ ha hf =>
      refine ⟨a, dx, fs, rfl, w1.gd.sub _ _ ha, b, ρ, G1, [.ins C (bookF b)], m1, .cons x' .nil, rfl, w1.gd.sub, w1.pot, fun a e => w1.gnone e, by omega, rfl, fun d v G2 H2 m2 pd g2 p2 l2 a2 => ?_⟩
      subst pd
      cases a2
      exact ⟨_, rfl, by omega, by omega, q _ _ G2 H2 m2 rfl (w1.step g2 p2) (Gd.trans w1.pot g1 g2) (by omega) (.int _)⟩
end
section
variable {P : Program} {w : World} {K : PySem.W.Frag} {mg : Str → Option Value} {base : Heap} {aH C : Addr}
structure LenC (P : Program) (w : World) (K : PySem.W.Frag) (mg : Str → Option Value) (base : Heap) (C : Addr) : Prop where
  ex : ∃ (f : Addr) (fd : FuncData), FnOk P w K mg base CX0 1 f fd ["self"] (spLenB K C) ∧ PySem.W.findIn K (.ref C) "__len__" = some (some (.ref f)) ∧ PySem.W.isFn K (.ref f) = true ∧ Binds K fd ["self"] []
/-- [is_between(x, lo, hi) for x in l] and all of it -/
theorem ed_allBet {ρ : Rh} {δ : Dl} {te ta tb : TE} {i : Nat} {l : List D} {lo hi : Int} {EE : XK} (h : ED ρ K te δ (.tup l)) (hi' : i < δ.length) (hl : l.length ≤ 100000) (ht : ∀ x ∈ l, (tyA x).isSome = true) (ha : ∀ d, ED ρ K ta ((wipeD δ [i]).set i (some (.val d))) (.int lo)) (hb : ∀ d, ED ρ K tb ((wipeD δ [i]).set i (some (.val d))) (.int hi)) :
    ED ρ K (tCB (rAll K) (tCons (tLc (iTup K te) (gName i) tYes (tCall (spBetA K) [] EE (tCons (tVar i) (tCons ta (tCons tb tNil)))) [i]) tNil)) δ (.bl ((l.map (betD lo hi)).all id)) := by
  refine ed_cb (eda_cons (EN.ej ?_) eda_nil) (cj_all (bs := l.map (betD lo hi)))
  refine (en_lcE (L := [i]) (ds := l) (p := fun _ => true) (f := fun d => .bl (betD lo hi d)) (δt := fun d => (wipeD δ [i]).set i (some (.val d))) (ij_tup h) (fun i h => h) (by omega) (fun d _ => gj_name) (fun d _ => eb_yes) (fun d hd _ => ed_betA (ht d hd) (ed_var (wipeD_set hi')) (ha d) (hb d))).mono (Nat.le_refl _) fun r e => ?_
  rw [e, filt_true, List.map_map]
  rfl
abbrev spRow0 (K : PySem.W.Frag) (d : D) (m : Nat) (lo hi : Int) : Sp := spJ K 4 (fun _ ds => ds = [d, .int (m : Nat), .int lo, .int hi] ∧ RowAny d) 0 (fun _ r => r = .bl (rowB m lo hi d))
def spRow (K : PySem.W.Frag) : Sp := fun vs H Q E => ∃ d m lo hi, spRow0 K d m lo hi vs H Q E
theorem ok_row {f : Addr} {fd : FuncData} (F : Fun K "is_row" "is_row" s_is_row f fd) (T : Txv K mg) (c_is_between : C8.Cal P w K mg base 2 "is_between" (spBetA K) []) : FnOk P w K mg base CX0 3 f fd ["value", "many", "least", "most"] (spRow K) := by
  refine F.ok sc_is_row (fun vs H Q E h => by obtain ⟨_, _, _, _, h⟩ := h; exact spJ_len h) (fun cdv A outer s H vs Q E hr h => ?_)
  obtain ⟨d, m, lo, hi, h⟩ := h
  refine ⟨_, (pss_cons (ps_if (PW.pt (pw_or (pt_not (pt_val (pe_callB call_isi (by rfl) T.b_isinstance (by decide +kernel) (pa_cons (pv 0) (pa_cons (pe_bltn (v := .ty "tuple") (by rfl) T.b_tuple (by decide +kernel) rfl) pa_nil))))) (pw_or1 (pt_cmpR op_ne (pe_callB call_len_seq (by rfl) T.b_len (by decide +kernel) (pa_cons (pv 0) pa_nil)) (pv 1) (by first | exact nomark _ | rfl))))) (pss_one (ps_ret pe_bl)) pss_nil)
 (pss_one (ps_ret (pe_callB (cr_all (by rfl)) (by rfl) T.b_all (by decide +kernel) (pa_cons (pe_lc (own := [("part", 4)]) rfl sc_is_row.nd (pi_tup (pv 0)) (blkOk_by (N := ["value", "many", "least", "most", "part"]) (sc := defScope s_is_row) (by decide +kernel)) (fun _ _ _ _ _ => (pg_name (i := 4) sc_is_row.nd rfl (by first | exact Or.inl rfl | exact Or.inr rfl))) (fun _ _ _ _ _ => pts_nil) (fun _ _ _ _ _ => (C8.pe_c c_is_between hr (by omega) (by rfl) (pa_cons (pv 4) (pa_cons (pv 2) (pa_cons (pv 3) pa_nil)))))) pa_nil))))), body_of (n := 4) (fun ρ ds hl hp => ?_) h⟩
  obtain ⟨rfl, ok⟩ := hp
  try dsimp only [cxOf, Cx.nox, Cx.wish]
  apply ex_k
  · refine (SJ.mono (k' := 0) (PO := (· = .rt (.bl (rowB m lo hi d)))) ?_ (Nat.le_refl _) fun o e => .inl ⟨_, e, rfl⟩)
    by_cases hd : ∃ l, d = .tup l
    · obtain ⟨l, rfl⟩ := hd
      obtain ⟨hll, hlt⟩ := ok.tup l rfl
      apply sj_ifs (k1 := 0 + 0) (k2 := 0) (k3 := 0) (PT := (· = !decide ((l.length : Int) = (m : Nat))))
      · refine (eb_or (x := false) (y := !decide ((l.length : Int) = (m : Nat))) (eb_not (x := true) (eb_B (ed_isTup (d := .tup l) rfl (ed_var rfl)))) fun _ => eb_test (ed_op (ed_cb (eda_cons (ed_var rfl) eda_nil) cj_lenT) (ed_var rfl) rj_neI)).mono (Nat.le_refl _) fun b e => by rw [e]; rfl
      · intro e
        apply sj_rets
        apply sj_retP (P := (· = .bl false)) ed_bl
        rintro _ rfl
        have : decide (l.length = m) = false := by
          have e' : decide ((l.length : Int) = (m : Nat)) = false := by simpa using e
          exact decide_eq_false fun z => of_decide_eq_false e' (by rw [z])
        show Out.rt (.bl false) = .rt (.bl (decide (l.length = m) && _))
        rw [this, Bool.false_and]
      · intro e
        have : decide (l.length = m) = true := by
          have e' : decide ((l.length : Int) = (m : Nat)) = true := by simpa using e
          exact decide_eq_true (by have := of_decide_eq_true e'; omega)
        apply sj_nexts
        apply sj_retP (P := (· = .bl ((l.map (betD lo hi)).all id)))
        · exact ed_allBet (ed_var rfl) (by show 4 < 5; decide) hll hlt (fun d => ed_var rfl) (fun d => ed_var rfl)
        rintro _ rfl
        show _ = Out.rt (.bl (decide (l.length = m) && _))
        rw [this, Bool.true_and]
    · have hf : isTupD d = false := by cases d <;> first | rfl | exact absurd ⟨_, rfl⟩ hd
      have hn : rowB m lo hi d = false := by cases d <;> first | rfl | exact absurd ⟨_, rfl⟩ hd
      apply sj_ifs (k1 := 0 + 0) (k2 := 0) (k3 := 0) (PT := (· = true))
      · have h0 := eb_not (eb_B (ρ := ρ) (K := K) (ed_isTup (δ := [some (.val d), some (.val (.int (m : Nat))), some (.val (.int lo)), some (.val (.int hi)), none]) (te := tVar 0) ok.ty (ed_var rfl)))
        rw [hf] at h0
        exact et_or (PB := fun _ => True) h0 (fun e => nomatch e) (fun _ => rfl) fun b e _ => nomatch e
      · intro e
        apply sj_rets
        apply sj_retP (P := (· = .bl false)) ed_bl
        rintro _ rfl
        rw [hn]
      · intro e; cases e
  · decide
abbrev spAscI0 (K : PySem.W.Frag) (ns : List Int) : Sp := spJ K 1 (fun _ ds => ds = [.tup (ns.map D.int)] ∧ ns.length ≤ 100000) 0 (fun _ r => r = .bl (ascI ns))
def spAscI (K : PySem.W.Frag) : Sp := fun vs H Q E => ∃ ns, spAscI0 K ns vs H Q E
theorem ok_ascI {f : Addr} {fd : FuncData} (F : Fun K "is_ascending" "is_ascending" s_is_ascending f fd) (T : Txv K mg) : FnOk P w K mg base CX0 1 f fd ["values"] (spAscI K) := by
  refine F.ok sc_is_ascending (fun vs H Q E h => by obtain ⟨_, h⟩ := h; exact spJ_len h) (fun cdv A outer s H vs Q E hr h => ?_)
  obtain ⟨ns, h⟩ := h
  refine ⟨_, (pss_one (ps_ret (pe_callB (cr_all (by rfl)) (by rfl) T.b_all (by decide +kernel) (pa_cons (pe_lc (own := [("one", 1), ("other", 2)]) (g := (gTup K 2 (gCons (gName 1) (gCons (gName 2) gNil)))) rfl sc_is_ascending.nd (RZ.pi_zipA (by rfl) T.b_zip (pa_cons (pv 0) (pa_cons (pe_slice (sl_tupAK K rfl) (pv 0) (po_some pe_int) po_none) pa_nil))) (blkOk_by (N := ["values", "one", "other"]) (sc := defScope s_is_ascending) (by decide +kernel)) (fun _ _ _ _ _ => (pg_tup rfl (pgs_cons (pg_name (i := 1) sc_is_ascending.nd rfl (by first | exact Or.inl rfl | exact Or.inr rfl)) (pgs_cons (pg_name (i := 2) sc_is_ascending.nd rfl (by first | exact Or.inl rfl | exact Or.inr rfl)) pgs_nil)))) (fun _ _ _ _ _ => pts_nil) (fun _ _ _ _ _ => (pe_cmpR op_lt (pv 1) (pv 2) (by first | exact nomark _ | rfl)))) pa_nil)))), body_of (n := 1) (fun ρ ds hl hp => ?_) h⟩
  obtain ⟨rfl, hn⟩ := hp
  try dsimp only [cxOf, Cx.nox, Cx.wish]
  apply ex_k
  · apply sj_retP (P := (· = .bl (ascI ns))) (ed_ascI (ed_var rfl) hn (by show 1 < 3; decide) (by show 2 < 3; decide) (by decide))
    rintro _ rfl
    exact .inl ⟨_, rfl, rfl⟩
  · decide
abbrev spOpn0 (K : PySem.W.Frag) (d : D) (m : Nat) : Sp := spJ K 2 (fun _ ds => ds = [d, .int (m : Nat)] ∧ RowAny d) 0 (fun _ r => r = .bl (opnB m d))
def spOpn (K : PySem.W.Frag) : Sp := fun vs H Q E => ∃ d m, spOpn0 K d m vs H Q E
theorem ok_opn {f : Addr} {fd : FuncData} (F : Fun K "is_opens" "is_opens" s_is_opens f fd) (T : Txv K mg) (c_is_between : C8.Cal P w K mg base 2 "is_between" (spBetA K) []) (c_is_ascending : C8.Cal P w K mg base 1 "is_ascending" (spAscI K) []) : FnOk P w K mg base CX0 3 f fd ["value", "many"] (spOpn K) := by
  refine F.ok sc_is_opens (fun vs H Q E h => by obtain ⟨_, _, h⟩ := h; exact spJ_len h) (fun cdv A outer s H vs Q E hr h => ?_)
  obtain ⟨d, m, h⟩ := h
  refine ⟨_, (pss_cons (ps_if (pt_not (pt_val (pe_callB call_isi (by rfl) T.b_isinstance (by decide +kernel) (pa_cons (pv 0) (pa_cons (pe_bltn (v := .ty "tuple") (by rfl) T.b_tuple (by decide +kernel) rfl) pa_nil))))) (pss_one (ps_ret pe_bl)) pss_nil)
 (pss_one (ps_ret (pe_and (pe_callB (cr_all (by rfl)) (by rfl) T.b_all (by decide +kernel) (pa_cons (pe_lc (own := [("number", 2)]) rfl sc_is_opens.nd (pi_tup (pv 0)) (blkOk_by (N := ["value", "many", "number"]) (sc := defScope s_is_opens) (by decide +kernel)) (fun _ _ _ _ _ => (pg_name (i := 2) sc_is_opens.nd rfl (by first | exact Or.inl rfl | exact Or.inr rfl))) (fun _ _ _ _ _ => pts_nil) (fun _ _ _ _ _ => (C8.pe_c c_is_between hr (by omega) (by rfl) (pa_cons (pv 2) (pa_cons pe_int (pa_cons (pe_op op_sub (pv 1) pe_int) pa_nil)))))) pa_nil)) (pe_one (C8.pe_c c_is_ascending hr (by omega) (by rfl) (pa_cons (pv 0) pa_nil))))))), body_of (n := 2) (fun ρ ds hl hp => ?_) h⟩
  obtain ⟨rfl, ok⟩ := hp
  try dsimp only [cxOf, Cx.nox, Cx.wish]
  apply ex_k
  · refine (SJ.mono (k' := 0) (PO := (· = .rt (.bl (opnB m d)))) ?_ (Nat.le_refl _) fun o e => .inl ⟨_, e, rfl⟩)
    by_cases hd : ∃ l, d = .tup l
    · obtain ⟨l, rfl⟩ := hd
      obtain ⟨hll, hlt⟩ := ok.tup l rfl
      apply sj_ifs (k1 := 0) (k2 := 0) (k3 := 0) (PT := (· = false))
      · exact (eb_not (x := true) (eb_B (ed_isTup (d := .tup l) rfl (ed_var rfl))))
      · intro e; cases e
      · intro _
        apply sj_nexts
        apply sj_retP (P := (· = .bl (opnB m (.tup l))))
        · refine ed_andV (ed_allBet (ed_var rfl) (by show 2 < 3; decide) hll hlt (fun d => ed_int) (fun d => ed_op (ed_var rfl) ed_int rj_I0)) fun e => ?_
          obtain ⟨el, _⟩ := ints_of e
          have hil : (intsD l).length ≤ 100000 := by
            have := congrArg List.length el
            rw [List.length_map] at this
            omega
          exact ej_callS (n := 1) (PA := (· = [.tup ((intsD l).map D.int)])) (eda_cons (by rw [← el]; exact ed_var rfl) eda_nil) (fun vs H Q (h : spAscI0 K (intsD l) vs H Q _) => ⟨_, h⟩) (fun ds e => ⟨by subst e; rfl, e, hil⟩) (fun ds d e h => h)
        rintro _ rfl
        rfl
    · have hf : isTupD d = false := by cases d <;> first | rfl | exact absurd ⟨_, rfl⟩ hd
      have hn : opnB m d = false := by cases d <;> first | rfl | exact absurd ⟨_, rfl⟩ hd
      apply sj_ifs (k1 := 0) (k2 := 0) (k3 := 0) (PT := (· = true))
      · have h0 := eb_not (eb_B (ρ := ρ) (K := K) (ed_isTup (δ := [some (.val d), some (.val (.int (m : Nat))), none]) (te := tVar 0) ok.ty (ed_var rfl)))
        rw [hf] at h0
        exact h0
      · intro e
        apply sj_rets
        apply sj_retP (P := (· = .bl false)) ed_bl
        rintro _ rfl
        rw [hn]
      · intro e; cases e
  · decide
theorem ed_row {ρ : Rh} {δ : Dl} {ta tb tc td : TE} {EE : XK} {d : D} {m : Nat} {lo hi : Int} (h1 : ED ρ K ta δ d) (h2 : ED ρ K tb δ (.int (m : Nat))) (h3 : ED ρ K tc δ (.int lo)) (h4 : ED ρ K td δ (.int hi)) (ok : RowAny d) : ED ρ K (tCall (spRow K) [] EE (tCons ta (tCons tb (tCons tc (tCons td tNil))))) δ (.bl (rowB m lo hi d)) :=
  ej_callS (n := 4) (PA := (· = [d, .int (m : Nat), .int lo, .int hi])) (eda_cons h1 (eda_cons h2 (eda_cons h3 (eda_cons h4 eda_nil)))) (fun vs H Q (h : spRow0 K d m lo hi vs H Q _) => ⟨_, _, _, _, h⟩) (fun ds e => ⟨by subst e; rfl, e, ok⟩) (fun ds d e h => h)
structure Txw (K : PySem.W.Frag) (mg : Str → Option Value) : Prop extends Txv K mg where
  k_MOST_TICKS : ∃ u, mg "MOST_TICKS" = some u ∧ RelV (.int 10000) u
  k_MOST_PUT_IN : ∃ u, mg "MOST_PUT_IN" = some u ∧ RelV (.int 1000000) u
abbrev spTick0 (K : PySem.W.Frag) (C : Addr) (b : Bk) (d : D) : Sp := spJ K 2 (fun _ ds => ds = [.ins C (bookF b), d] ∧ RdOk b ∧ TickAny d) 0 (fun _ r => r = .bl (tickB b d))
def spTick (K : PySem.W.Frag) (C : Addr) : Sp := fun vs H Q E => ∃ b d, spTick0 K C b d vs H Q E
theorem ok_tick {f : Addr} {fd : FuncData} (F : Fun K "is_tick" "is_tick" s_is_tick f fd) (T : Txw K mg) (c : BkC K C) (L : LenC P w K mg base C) (c_is_row : C8.Cal P w K mg base 3 "is_row" (spRow K) []) (c_is_opens : C8.Cal P w K mg base 3 "is_opens" (spOpn K) []) : FnOk P w K mg base CX0 4 f fd ["book", "value"] (spTick K C) := by
  refine F.ok sc_is_tick (fun vs H Q E h => by obtain ⟨_, _, h⟩ := h; exact spJ_len h) (fun cdv A outer s H vs Q E hr h => ?_)
  obtain ⟨fL, fdL, FL, hsL, hfL, hbL⟩ := L.ex
  obtain ⟨b, d, h⟩ := h
  refine ⟨_, (pss_cons (ps_if (PW.pt (pw_or (pt_not (pt_val (pe_callB call_isi (by rfl) T.b_isinstance (by decide +kernel) (pa_cons (pv 1) (pa_cons (pe_bltn (v := .ty "tuple") (by rfl) T.b_tuple (by decide +kernel) rfl) pa_nil))))) (pw_or1 (pt_cmpR op_ne (pe_callB call_len_seq (by rfl) T.b_len (by decide +kernel) (pa_cons (pv 1) pa_nil)) pe_int (by first | exact nomark _ | rfl))))) (pss_one (ps_ret pe_bl)) pss_nil)
 (pss_cons (ps_asg (pv 1) (pg_tup rfl (pgs_cons (pg_name (i := 2) sc_is_tick.nd rfl (by first | exact Or.inl rfl | exact Or.inr rfl)) (pgs_cons (pg_name (i := 3) sc_is_tick.nd rfl (by first | exact Or.inl rfl | exact Or.inr rfl)) (pgs_cons (pg_name (i := 4) sc_is_tick.nd rfl (by first | exact Or.inl rfl | exact Or.inr rfl)) pgs_nil)))))
 (pss_cons (ps_set (i := 5) sc_is_tick.nd rfl (by first | exact Or.inl rfl | exact Or.inr rfl) (pe_callB call_len_seq (by rfl) T.b_len (by decide +kernel) (pa_cons (pe_fld (pv 0) rfl) pa_nil)))
 (pss_one (ps_ret (pe_and (C8.pe_c c_is_row hr (by omega) (by rfl) (pa_cons (pv 2) (pa_cons (pe_callB (call_lenO FL (hr.mono (by decide)) hsL hfL hbL pass0) (by rfl) T.b_len (by decide +kernel) (pa_cons (pv 0) pa_nil)) (pa_cons pe_int (pa_cons (C8.pe_gc (by rfl) T.k_MOST_PUT_IN) pa_nil))))) (pe_and (C8.pe_c c_is_opens hr (by omega) (by rfl) (pa_cons (pv 3) (pa_cons (pv 5) pa_nil))) (pe_one (C8.pe_c c_is_row hr (by omega) (by rfl) (pa_cons (pv 4) (pa_cons (pv 5) (pa_cons pe_int (pa_cons (pe_fld (pv 0) rfl) pa_nil))))))))))))), body_of (n := 2) (fun ρ ds hl hp => ?_) h⟩
  obtain ⟨rfl, okb, ok⟩ := hp
  try dsimp only [cxOf, Cx.nox, Cx.wish]
  have hn2 := okb.n2
  have hnl := okb.nl
  let e0 : Dl := initD 6 [.ins C (bookF b), d]
  apply ex_k
  · refine (SJ.mono (k' := 0) (PO := (· = .rt (.bl (tickB b d)))) ?_ (Nat.le_refl _) fun o e => .inl ⟨_, e, rfl⟩)
    by_cases hd : ∃ l, d = .tup l
    · obtain ⟨l, rfl⟩ := hd
      have hll := ok.len l rfl
      apply sj_ifs (k1 := 0 + 0) (k2 := 0) (k3 := 0) (PT := (· = !decide ((l.length : Int) = 3)))
      · refine (eb_or (x := false) (y := !decide ((l.length : Int) = 3)) (eb_not (x := true) (eb_B (ed_isTup (d := .tup l) rfl (ed_var rfl)))) fun _ => eb_test (ed_op (ed_cb (eda_cons (ed_var rfl) eda_nil) cj_lenT) ed_int rj_neI)).mono (Nat.le_refl _) fun b e => by rw [e]; rfl
      · intro e
        have e' : decide ((l.length : Int) = 3) = false := by simpa using e
        apply sj_rets
        apply sj_retP (P := (· = .bl false)) ed_bl
        rintro _ rfl
        have : tickB b (.tup l) = false := by
          match l, of_decide_eq_false e' with
          | [], _ => rfl
          | [_], _ => rfl
          | [_, _], _ => rfl
          | [_, _, _], z => exact absurd rfl z
          | _ :: _ :: _ :: _ :: _, _ => rfl
        rw [this]
      · intro e
        have e' : decide ((l.length : Int) = 3) = true := by simpa using e
        have hl3 : l.length = 3 := by have := of_decide_eq_true e'; omega
        obtain ⟨a, o, g, rfl⟩ : ∃ a o g, l = [a, o, g] := by
          match l, hl3 with
          | [a, o, g], _ => exact ⟨a, o, g, rfl⟩
        obtain ⟨ra, ro, rg⟩ := ok.tup a o g rfl
        apply sj_nexts
        refine sj_asg (k1 := 0) (k2 := 0) (L := [2, 3, 4]) (P := (· = .tup [a, o, g])) (δ' := fun _ => ((e0.set 2 (some (.val a))).set 3 (some (.val o))).set 4 (some (.val g))) (ed_var rfl) ?_ ?_
        · rintro _ rfl
          exact gj_tup (gsj_cons gj_name (gsj_cons gj_name (gsj_cons gj_name gsj_nil))) rfl
        rintro _ rfl
        apply sj_set (k1 := 0) (k2 := 0) (P := (· = .int (b.links.length : Nat)))
        · have := ed_cb (ρ := ρ) (K := K) (eda_cons (ed_links (δ := ((e0.set 2 (some (.val a))).set 3 (some (.val o))).set 4 (some (.val g))) (te := tVar 0) (ed_var rfl) c) eda_nil) cj_lenT
          rw [List.length_map] at this
          exact this
        rintro _ rfl
        apply sj_retP (P := (· = .bl (tick3 b.stations.length b.links.length b.late a o g)))
        · refine ed_andV (ed_row (ed_var rfl) (ed_lenB (ed_var rfl) (by omega)) ed_int (ed_c fun _ => .int _) ra) fun _ => ed_andV (ej_callS (n := 2) (PA := (· = [o, .int (b.links.length : Nat)])) (eda_cons (ed_var rfl) (eda_cons (ed_var rfl) eda_nil)) (fun vs H Q (h : spOpn0 K o b.links.length vs H Q _) => ⟨_, _, h⟩) (fun ds e => ⟨by subst e; rfl, e, ro⟩) (fun ds d e h => h)) fun _ => ed_row (ed_var rfl) (ed_var rfl) ed_int (ed_late (ed_var rfl) c) rg
        rintro _ rfl
        rfl
    · have hf : isTupD d = false := by cases d <;> first | rfl | exact absurd ⟨_, rfl⟩ hd
      have hn : tickB b d = false := by cases d <;> first | rfl | exact absurd ⟨_, rfl⟩ hd
      apply sj_ifs (k1 := 0 + 0) (k2 := 0) (k3 := 0) (PT := (· = true))
      · have h0 := eb_not (eb_B (ρ := ρ) (K := K) (ed_isTup (δ := e0) (te := tVar 1) ok.ty (ed_var rfl)))
        rw [hf] at h0
        exact et_or (PB := fun _ => True) h0 (fun e => nomatch e) (fun _ => rfl) fun b e _ => nomatch e
      · intro e
        apply sj_rets
        apply sj_retP (P := (· = .bl false)) ed_bl
        rintro _ rfl
        rw [hn]
      · intro e; cases e
  · decide
end
end DN

/-! what is left behind a tick -/
namespace DN
open PySem PySem.Spec PyProof.Rows L2
theorem get_listX {X : Cx} : PGet X (rIxL X.K) := by
  intro pins s σ H o i ov iv Q I ro ri h
  obtain ⟨p, xs, i, z, rfl, rfl, hq, he, q⟩ := h
  cases ro
  obtain ⟨t, rfl⟩ := ri
  obtain ⟨its, r, pl, hz⟩ := I.list hq
  obtain ⟨j, h1, h2, h3, h4, h5⟩ := atI_get he
  obtain ⟨w, ew, rw'⟩ := r.get h2
  have hl := r.length
  have hn := line63
  have fin : EP X pins σ Q w s := ⟨z, H, I, rw', q⟩
  by_cases h0 : 0 ≤ i
  · have hj : i.toNat = j := by
      rw [seqIndex_of h0 h5] at h1
      exact Option.some.inj h1
    exact wpAny_getItem_list pl.isList h0 (by omega) (by rw [hj]; simpa using ew) fin
  · have hj : (i + (its.toArray.size : Int)).toNat = j := by
      rw [seqIndex_neg (by omega) h4] at h1
      rw [List.size_toArray, ← hl]
      exact Option.some.inj h1
    exact wpAny_getItem_list_neg pl.isList (by omega) (by rw [List.size_toArray] <;> omega) (by omega) (by rw [hj]; simpa using ew) fin
variable [Tb]
abbrev s_left_at_first : Stmt := topS 22
theorem sc_left_at_first : FnScope ["book", "packets", "shuts", "_", "put", "times"] ["book"] (defScope s_left_at_first) := ⟨rfl, rfl, rfl, by decide +kernel, rfl, by decide +kernel, by decide +kernel⟩
abbrev s_left_behind : Stmt := topS 23
theorem sc_left_behind : FnScope ["left", "tick", "puts", "opens", "_", "packets", "shuts", "number", "many", "put"] ["left", "tick"] (defScope s_left_behind) := ⟨rfl, rfl, rfl, by decide +kernel, rfl, by decide +kernel, by decide +kernel⟩
section
variable {ρ : Rh} {K : PySem.W.Frag} {E : XK} {δ : Dl} {te tb : TE} {u : TS} {k : Nat} {PO : Out → Prop} {i : Nat}
theorem sj_augItem {ds : List D} {n : Nat} {x y : Int} (hi : δ[i]? = some (some (.own (.lst ds)))) (hk : ED ρ K tb δ (.int (n : Int))) (hx : ds[n]? = some (.int x)) (he : ED ρ K te δ (.int y)) (hn : SJ ρ K E u (δ.set i (some (.own (.lst (ds.set n (.int (x + y))))))) k PO) :
    SJ ρ K E (tSeq (tAugS (tVar i) tb te (rIxL K) (ipI fun i j => i + j) rSetL) u) δ k PO := .mk fun G0 H0 G H σ m D w hm q => by
  obtain ⟨v0, e1, p, o, rfl, hp, ha, hg', h0⟩ := w.sl i _ hi
  refine ⟨_, e1, ?_⟩
  refine hk.run G0 H0 G H σ m _ w (by omega) fun e v2 G2 H2 m2 pe w2 g2 l2 a2 => ?_
  subst pe
  cases a2
  have nr : Fx ρ p := fun z => (w.pot0 p z).1 h0
  cases ha with
  | @lst xs _ hx' =>
    have hx2 := hx'.mono g2.gg
    have hp2 := g2.keep _ _ nr hp
    obtain ⟨v, hv1, hv2⟩ := hx2.atI (atI_nat hx)
    cases hv2
    refine ⟨p, xs, (n : Int), _, rfl, rfl, .inl (.inl hp2), hv1, ?_⟩
    refine he.run G0 H0 G2 H2 σ m2 _ w2 (by omega) fun e v3 G3 H3 m3 pe w3 g3 l3 a3 => ?_
    subst pe
    cases a3
    refine ⟨x, y, rfl, rfl, ?_⟩
    have hx3 := hx2.mono g3.gg
    have hl : n < ds.length := (List.getElem?_eq_some_iff.mp hx).1
    refine ⟨p, xs, (n : Int), n, rfl, rfl, g3.keep _ _ nr hp2, ixN_nat (by rw [hx3.len]; exact hl), ?_⟩
    exact hn.run G0 H0 G3 _ σ m3 D (w3.chg hi e1 (.lst (AtL.set (.int _) n hx3))) (by omega) fun o po => (q o po).le (by omega)
end
/-- what is left at the beginning of a window -/
def left0 (b : Bk) : List Int × List Int := (b.stations.map fun s => s.2.2, b.links.map fun l => b.window - l.2.2.2)
/-- .. behind a tick -/
def addAt (xs : List Int) (n : Nat) : List Int := xs.set n (xs.getD n 0 + 1)
def left1 (lf : List Int × List Int) (t : Tick) : List Int × List Int := (List.zipWith (· - ·) lf.1 t.1, t.2.1.foldl addAt (lf.2.map (· - 1)))
def leftD (lf : List Int × List Int) : D := .tup [.lst (lf.1.map D.int), .lst (lf.2.map D.int)]
section
variable {P : Program} {w : World} {K : PySem.W.Frag} {mg : Str → Option Value} {base : Heap} {aH C : Addr}
abbrev spL00 (K : PySem.W.Frag) (C : Addr) (b : Bk) : Sp := spJ K 1 (fun _ ds => ds = [.ins C (bookF b)] ∧ RdOk b) 0 (fun _ r => r = leftD (left0 b))
def spL0 (K : PySem.W.Frag) (C : Addr) : Sp := fun vs H Q E => ∃ b, spL00 K C b vs H Q E
theorem ok_left0 {f : Addr} {fd : FuncData} (F : Fun K "left_at_first" "left_at_first" s_left_at_first f fd) (c : BkC K C) : FnOk P w K mg base CX0 1 f fd ["book"] (spL0 K C) := by
  refine F.ok sc_left_at_first (fun vs H Q E h => by obtain ⟨_, h⟩ := h; exact spJ_len h) (fun cdv A outer s H vs Q E hr h => ?_)
  obtain ⟨b, h⟩ := h
  refine ⟨_, (pss_cons (ps_setLc (i := 1) (own := [("_", 3), ("put", 4)]) (g := (gTup K 3 (gCons (gName 3) (gCons (gName 3) (gCons (gName 4) gNil))))) rfl sc_left_at_first.nd rfl rfl (sw_true rfl rfl rfl (by decide +kernel)) (pi_tup (pe_fld (pv 0) rfl)) (blkOk_by (N := ["book", "packets", "shuts", "_", "put", "times"]) (sc := defScope s_left_at_first) (by decide +kernel)) (fun _ _ _ _ _ => (pg_tup rfl (pgs_cons (pg_name (i := 3) sc_left_at_first.nd rfl (by first | exact Or.inl rfl | exact Or.inr rfl)) (pgs_cons (pg_name (i := 3) sc_left_at_first.nd rfl (by first | exact Or.inl rfl | exact Or.inr rfl)) (pgs_cons (pg_name (i := 4) sc_left_at_first.nd rfl (by first | exact Or.inl rfl | exact Or.inr rfl)) pgs_nil))))) (fun _ _ _ _ _ => pts_nil) (fun _ _ _ _ _ => (pv 4)))
 (pss_cons (ps_setLc (i := 2) (own := [("_", 3), ("times", 5)]) (g := (gTup K 4 (gCons (gName 3) (gCons (gName 3) (gCons (gName 3) (gCons (gName 5) gNil)))))) rfl sc_left_at_first.nd rfl rfl (sw_true rfl rfl rfl (by decide +kernel)) (pi_tup (pe_fld (pv 0) rfl)) (blkOk_by (N := ["book", "packets", "shuts", "_", "put", "times"]) (sc := defScope s_left_at_first) (by decide +kernel)) (fun _ _ _ _ _ => (pg_tup rfl (pgs_cons (pg_name (i := 3) sc_left_at_first.nd rfl (by first | exact Or.inl rfl | exact Or.inr rfl)) (pgs_cons (pg_name (i := 3) sc_left_at_first.nd rfl (by first | exact Or.inl rfl | exact Or.inr rfl)) (pgs_cons (pg_name (i := 3) sc_left_at_first.nd rfl (by first | exact Or.inl rfl | exact Or.inr rfl)) (pgs_cons (pg_name (i := 5) sc_left_at_first.nd rfl (by first | exact Or.inl rfl | exact Or.inr rfl)) pgs_nil)))))) (fun _ _ _ _ _ => pts_nil) (fun _ _ _ _ _ => (pe_op op_sub (pe_fldK K rfl (pv 0) rfl) (pv 5))))
 (pss_one (ps_ret (pe_tup (pa_cons (pv 1) (pa_cons (pv 2) pa_nil))))))), body_of (n := 1) (fun ρ ds hl hp => ?_) h⟩
  obtain ⟨rfl, ok⟩ := hp
  try dsimp only [cxOf, Cx.nox, Cx.wish]
  have hn2 := ok.n2
  have hnl := ok.nl
  let e0 : Dl := initD 6 [.ins C (bookF b)]
  apply ex_k
  · apply sj_set (k1 := 0) (k2 := 0) (P := (· = .lst ((left0 b).1.map D.int)))
    · refine (EN.ej (en_lcE (L := [3, 3, 4]) (ds := b.stations.map statD) (p := fun _ => true) (f := fun d => match d with | .tup [_, _, z] => z | _ => .non) (δt := fun d => match d with | .tup [x, y, z] => ((((wipeD e0 [3, 4]).set 3 (some (.val x))).set 3 (some (.val y))).set 4 (some (.val z))) | _ => []) (ij_tup (ed_stations (ed_var rfl) c)) (fun k h => by simpa using h) (by rw [List.length_map]; omega) (fun d hd => ?_) (fun d hd => eb_yes) (fun d hd _ => ?_))).mono (Nat.le_refl _) fun r e => ?_
      · obtain ⟨s, hs, rfl⟩ := List.mem_map.mp hd
        exact gj_tup (gsj_cons gj_name (gsj_cons gj_name (gsj_cons gj_name gsj_nil))) rfl
      · obtain ⟨s, hs, rfl⟩ := List.mem_map.mp hd
        exact ed_var rfl
      · rw [e, filt_true, List.map_map]
        show _ = D.lst ((b.stations.map fun s => s.2.2).map D.int)
        rw [List.map_map]
        rfl
    rintro _ rfl
    apply sj_set (k1 := 0) (k2 := 0) (P := (· = .lst ((left0 b).2.map D.int)))
    · refine (EN.ej (en_lcE (L := [3, 3, 3, 5]) (ds := b.links.map linkD) (p := fun _ => true) (f := fun d => match d with | .tup [_, _, _, .int t] => .int (b.window - t) | _ => .non) (δt := fun d => match d with | .tup [x, y, z, u] => (((((wipeD (e0.set 1 (some (.val (.lst ((left0 b).1.map D.int))))) [3, 5]).set 3 (some (.val x))).set 3 (some (.val y))).set 3 (some (.val z))).set 5 (some (.val u))) | _ => []) (ij_tup (ed_links (ed_var rfl) c)) (fun k h => by simpa using h) (by rw [List.length_map]; omega) (fun d hd => ?_) (fun d hd => eb_yes) (fun d hd _ => ?_))).mono (Nat.le_refl _) fun r e => ?_
      · obtain ⟨s, hs, rfl⟩ := List.mem_map.mp hd
        exact gj_tup (gsj_cons gj_name (gsj_cons gj_name (gsj_cons gj_name (gsj_cons gj_name gsj_nil)))) rfl
      · obtain ⟨s, hs, rfl⟩ := List.mem_map.mp hd
        exact ed_op (ed_window (ed_var rfl) c) (ed_var rfl) rj_I0
      · rw [e, filt_true, List.map_map]
        show _ = D.lst ((b.links.map fun l => b.window - l.2.2.2).map D.int)
        rw [List.map_map]
        rfl
    rintro _ rfl
    apply sj_retP (P := (· = leftD (left0 b))) (ed_tup (eda_cons (ed_var rfl) (eda_cons (ed_var rfl) eda_nil)) (by show 2 ≤ 1000000; decide))
    rintro _ rfl
    exact .inl ⟨_, rfl, rfl⟩
  · decide
theorem addAt_len (xs : List Int) (n : Nat) : (addAt xs n).length = xs.length := by unfold addAt; rw [List.length_set]
theorem fold_len : ∀ (ns : List Nat) (xs : List Int), (ns.foldl addAt xs).length = xs.length
  | [], _ => rfl
  | n :: r, xs => by rw [List.foldl_cons, fold_len r, addAt_len]
theorem left1_len (lf : List Int × List Int) (t : Tick) (h : lf.1.length = t.1.length) : (left1 lf t).1.length = lf.1.length ∧ (left1 lf t).2.length = lf.2.length := by
  refine ⟨?_, ?_⟩
  · show (List.zipWith _ _ _).length = _
    rw [List.length_zipWith, h, Nat.min_self]
  · show (List.foldl addAt _ _).length = _
    rw [fold_len, List.length_map]
theorem zipW : ∀ (xs ys : List Int), List.zipWith (· - ·) xs ys = (xs.zip ys).map fun p => p.1 - p.2
  | [], _ => by simp
  | _ :: _, [] => by simp
  | x :: r, y :: q => by rw [List.zipWith_cons_cons, List.zip_cons_cons, List.map_cons, zipW r q]
theorem zip_two (xs ys : List Int) : ((xs.map D.int).zip (ys.map D.int)).map (fun p => D.tup [p.1, p.2]) = (xs.zip ys).map fun p => D.tup [.int p.1, .int p.2] := by
  rw [List.zip_map, List.map_map]
  rfl
abbrev spL10 (K : PySem.W.Frag) (lf : List Int × List Int) (t : Tick) : Sp := spJ K 2 (fun _ ds => ds = [leftD lf, tickD t] ∧ lf.1.length = t.1.length ∧ lf.1.length ≤ 1000 ∧ lf.2.length ≤ 1000 ∧ (∀ k ∈ t.2.1, k < lf.2.length) ∧ t.2.1.length ≤ 1000) 0 (fun _ r => r = leftD (left1 lf t))
def spL1 (K : PySem.W.Frag) : Sp := fun vs H Q E => ∃ lf t, spL10 K lf t vs H Q E
theorem ok_left1 {f : Addr} {fd : FuncData} (F : Fun K "left_behind" "left_behind" s_left_behind f fd) (T : Txv K mg) : FnOk P w K mg base CX0 1 f fd ["left", "tick"] (spL1 K) := by
  refine F.ok sc_left_behind (fun vs H Q E h => by obtain ⟨_, _, h⟩ := h; exact spJ_len h) (fun cdv A outer s H vs Q E hr h => ?_)
  obtain ⟨lf, t, h⟩ := h
  refine ⟨_, (pss_cons (ps_asg (pv 1) (pg_tup rfl (pgs_cons (pg_name (i := 2) sc_left_behind.nd rfl (by first | exact Or.inl rfl | exact Or.inr rfl)) (pgs_cons (pg_name (i := 3) sc_left_behind.nd rfl (by first | exact Or.inl rfl | exact Or.inr rfl)) (pgs_cons (pg_name (i := 4) sc_left_behind.nd rfl (by first | exact Or.inl rfl | exact Or.inr rfl)) pgs_nil)))))
 (pss_cons (ps_setLc (i := 5) (own := [("many", 8), ("put", 9)]) (g := (gTup K 2 (gCons (gName 8) (gCons (gName 9) gNil)))) rfl sc_left_behind.nd rfl rfl (sw_true rfl rfl rfl (by decide +kernel)) (ZX.pi_zipX .l .t (by rfl) T.b_zip (pa_cons (pe_ix ix_tup (pv 0) pe_int (fun _ _ => rfl)) (pa_cons (pv 2) pa_nil))) (blkOk_by (N := ["left", "tick", "puts", "opens", "_", "packets", "shuts", "number", "many", "put"]) (sc := defScope s_left_behind) (by decide +kernel)) (fun _ _ _ _ _ => (pg_tup rfl (pgs_cons (pg_name (i := 8) sc_left_behind.nd rfl (by first | exact Or.inl rfl | exact Or.inr rfl)) (pgs_cons (pg_name (i := 9) sc_left_behind.nd rfl (by first | exact Or.inl rfl | exact Or.inr rfl)) pgs_nil)))) (fun _ _ _ _ _ => pts_nil) (fun _ _ _ _ _ => (pe_op op_sub (pv 8) (pv 9))))
 (pss_cons (ps_setLc (i := 6) (own := [("many", 8)]) rfl sc_left_behind.nd rfl rfl (sw_true rfl rfl rfl (by decide +kernel)) (pi_list (pe_ix ix_tup (pv 0) pe_int (fun _ _ => rfl))) (blkOk_by (N := ["left", "tick", "puts", "opens", "_", "packets", "shuts", "number", "many", "put"]) (sc := defScope s_left_behind) (by decide +kernel)) (fun _ _ _ _ _ => (pg_name (i := 8) sc_left_behind.nd rfl (by first | exact Or.inl rfl | exact Or.inr rfl))) (fun _ _ _ _ _ => pts_nil) (fun _ _ _ _ _ => (pe_op op_sub (pv 8) pe_int)))
 (pss_cons (ps_for PassesOwn.never rfl (pi_tup (pv 3)) (pg_name (i := 7) sc_left_behind.nd rfl (by first | exact Or.inl rfl | exact Or.inr rfl))
  (pss_one (ps_augS (pv 6) (pv 7) get_listX pe_int ip_add set_list)))
 (pss_one (ps_ret (pe_tup (pa_cons (pv 5) (pa_cons (pv 6) pa_nil))))))))), body_of (n := 2) (fun ρ ds hl hp => ?_) h⟩
  obtain ⟨rfl, h1, h2, h3, h4, h5⟩ := hp
  try dsimp only [cxOf, Cx.nox, Cx.wish]
  obtain ⟨pk, sh⟩ := lf
  obtain ⟨tp, to, ta⟩ := t
  dsimp only at h1 h2 h3 h4 h5
  let e0 : Dl := initD 10 [leftD (pk, sh), tickD (tp, to, ta)]
  let e1 : Dl := ((e0.set 2 (some (.val (.tup (tp.map D.int))))).set 3 (some (.val (.tup (to.map nI))))).set 4 (some (.val (.tup (ta.map D.int))))
  refine ⟨0 + (0 + (0 + (0 + (1000 * 0 + 0)))), by decide, ?_⟩
  refine sj_asg (k1 := 0) (k2 := 0 + (0 + (0 + (1000 * 0 + 0)))) (L := [2, 3, 4]) (P := (· = tickD (tp, to, ta))) (δ' := fun _ => e1) (ed_var rfl) ?_ ?_
  · rintro _ rfl
    exact gj_tup (gsj_cons gj_name (gsj_cons gj_name (gsj_cons gj_name gsj_nil))) rfl
  rintro _ rfl
  refine sj_set (k1 := 0) (k2 := 0 + (0 + (1000 * 0 + 0))) (P := (· = .lst ((List.zipWith (· - ·) pk tp).map D.int))) ?_ ?_
  · have hz : IJ ρ K (ZX.iZipX K .l .t (tCons (tOp (rIxT K) (tVar 0) (tC (V.int 0))) (tCons (tVar 2) tNil))) e1 0 (· = (pk.zip tp).map fun p => D.tup [.int p.1, .int p.2]) := by
      rw [← zip_two]
      exact ij_zipX .l .t (eda_cons (ed_op (ed_var rfl) ed_int (rj_ixT rfl)) (eda_cons (ed_var rfl) eda_nil))
    refine (EN.ej (en_lcE (L := [8, 9]) (ds := (pk.zip tp).map fun p => D.tup [.int p.1, .int p.2]) (p := fun _ => true) (f := fun d => match d with | .tup [.int x, .int y] => .int (x - y) | _ => .non) (δt := fun d => match d with | .tup [x, y] => (((wipeD e1 [8, 9]).set 8 (some (.val x))).set 9 (some (.val y))) | _ => []) hz (fun k h => h) (by rw [List.length_map, List.length_zip]; omega) (fun d hd => ?_) (fun d _ => eb_yes) (fun d hd _ => ?_))).mono (Nat.le_refl _) fun r e => ?_
    · obtain ⟨p, hp, rfl⟩ := List.mem_map.mp hd
      exact gj_tup (gsj_cons gj_name (gsj_cons gj_name gsj_nil)) rfl
    · obtain ⟨p, hp, rfl⟩ := List.mem_map.mp hd
      exact ed_op (ed_var rfl) (ed_var rfl) rj_I0
    · rw [e, filt_true, List.map_map, zipW, List.map_map]
      rfl
  rintro _ rfl
  refine sj_new (k1 := 0) (k2 := 0 + (1000 * 0 + 0)) (P := (· = .lst ((sh.map (· - 1)).map D.int))) ?_ ?_
  · refine (en_lcE (L := [8]) (ds := sh.map D.int) (p := fun _ => true) (f := fun d => match d with | .int x => .int (x - 1) | _ => .non) (ij_list (ed_op (ed_var rfl) ed_int (rj_ixT rfl))) (fun k h => h) (by rw [List.length_map]; omega) (fun d hd => gj_name) (fun d _ => eb_yes) (fun d hd _ => ?_)).mono (Nat.le_refl _) fun r e => ?_
    · obtain ⟨x, hx, rfl⟩ := List.mem_map.mp hd
      exact ed_op (ed_var rfl) ed_int rj_I0
    · rw [e, filt_true, List.map_map, List.map_map]
      rfl
  rintro _ rfl
  let eI : List Int → Dl := fun xs => ((e1.set 5 (some (.val (.lst ((List.zipWith (· - ·) pk tp).map D.int))))).set 6 (some (.own (.lst (xs.map D.int)))))
  refine sj_for (L := [7]) (k1 := 0) (kb := 0) (k2 := 0) (N := 1000) (PI := (· = to.map nI)) (ij_tup (ed_var rfl)) (fun _ j δ' => δ' = eI ((to.take j).foldl addAt (sh.map (· - 1)))) (fun _ => False) ?_ ?_ ?_ ?_
  · rintro _ rfl
    rw [List.length_map]; exact h5
  · rintro _ rfl
    rfl
  · rintro _ j d _ rfl hd rfl
    rw [List.getElem?_map] at hd
    cases hk : to[j]? with
    | none => rw [hk] at hd; cases hd
    | some k =>
      rw [hk] at hd
      obtain rfl := Option.some.inj hd
      have hkl := h4 k (List.mem_of_getElem? hk)
      have hlen : ((to.take j).foldl addAt (sh.map (· - 1))).length = sh.length := by rw [fold_len, List.length_map]
      refine ⟨_, gj_name, ?_⟩
      apply sj_last
      refine sj_augItem (i := 6) (n := k) (x := ((to.take j).foldl addAt (sh.map (· - 1))).getD k 0) (y := 1) rfl (ed_var rfl) ?_ ed_int ?_
      · rw [List.getElem?_map, List.getElem?_eq_getElem (by rw [hlen]; exact hkl), List.getD_eq_getElem?_getD, List.getElem?_eq_getElem (by rw [hlen]; exact hkl)]
        rfl
      · refine sj_nextW (δ' := eI ((to.take (j + 1)).foldl addAt (sh.map (· - 1)))) ?_ rfl
        have e : (((to.take j).foldl addAt (sh.map (· - 1))).map D.int).set k (.int (((to.take j).foldl addAt (sh.map (· - 1))).getD k 0 + 1)) = ((to.take (j + 1)).foldl addAt (sh.map (· - 1))).map D.int := by
          rw [set_map, take_snoc hk, List.foldl_append]
          rfl
        rw [e]
        exact .keep (.keep (.keep (.keep (.keep (.keep (.keep (.drop (.drop (.drop .nil)))))))))
  · rintro _ _ rfl (rfl | z)
    rotate_left
    · exact z.elim
    rw [List.length_map, List.take_length]
    apply sj_frz 6 rfl
    apply sj_retP (P := (· = leftD (left1 (pk, sh) (tp, to, ta)))) (ed_tup (eda_cons (ed_var rfl) (eda_cons (ed_var rfl) eda_nil)) (by show 2 ≤ 1000000; decide))
    rintro _ rfl
    exact .inl ⟨_, rfl, rfl⟩
end
end DN

/-! what first_bad tells -/
namespace DN
open PySem PySem.Spec PyProof.Rows L2
variable [Tb]
abbrev s_first_bad : Stmt := topS 20
theorem sc_first_bad : FnScope ["book", "value", "number", "tick", "left"] ["book", "value"] (defScope s_first_bad) := ⟨rfl, rfl, rfl, by decide +kernel, rfl, by decide +kernel, by decide +kernel⟩
abbrev s_check_ticks : Stmt := topS 21
theorem sc_check_ticks : FnScope ["book", "ticks", "number"] ["book", "ticks"] (defScope s_check_ticks) := ⟨rfl, rfl, rfl, by decide +kernel, rfl, by decide +kernel, by decide +kernel⟩
abbrev s_windows_in : Stmt := topS 24
theorem sc_windows_in : FnScope ["book", "ticks"] ["book", "ticks"] (defScope s_windows_in) := ⟨rfl, rfl, rfl, by decide +kernel, rfl, by decide +kernel, by decide +kernel⟩
def tk : D → Tick
  | .tup [.tup a, .tup o, .tup g] => (intsD a, (intsD o).map Int.toNat, intsD g)
  | _ => ([], [], [])
structure TickOk (b : Bk) (t : Tick) : Prop where
  p : t.1.length = b.stations.length
  pn : ∀ x ∈ t.1, 0 ≤ x ∧ x ≤ 1000000
  o : ∀ k ∈ t.2.1, k < b.links.length
  asc : t.2.1.Pairwise (· < ·)
  g : t.2.2.length = b.links.length
  gn : ∀ x ∈ t.2.2, 0 ≤ x ∧ x ≤ b.late
theorem asc_pair : ∀ {xs : List Int}, ascI xs = true → xs.Pairwise (· < ·)
  | [], _ => .nil
  | [x], _ => by simp
  | x :: y :: r, h => by
    have h' : (decide (x < y) && ascI (y :: r)) = true := h
    rw [Bool.and_eq_true, decide_eq_true_eq] at h'
    have ih := asc_pair h'.2
    refine List.Pairwise.cons (fun z hz => ?_) ih
    rcases List.mem_cons.mp hz with rfl | hz
    · exact h'.1
    · have := List.rel_of_pairwise_cons ih hz
      omega
theorem pair_asc : ∀ {xs : List Int}, xs.Pairwise (· < ·) → ascI xs = true
  | [], _ => rfl
  | [x], _ => rfl
  | x :: y :: r, h => by
    show (decide (x < y) && ascI (y :: r)) = true
    rw [pair_asc (List.Pairwise.of_cons h), decide_eq_true (List.rel_of_pairwise_cons h List.mem_cons_self)]
    rfl
theorem rowB_of {m : Nat} {lo hi : Int} {d : D} (h : rowB m lo hi d = true) : ∃ xs : List Int, d = .tup (xs.map D.int) ∧ xs.length = m ∧ ∀ x ∈ xs, lo ≤ x ∧ x ≤ hi := by
  cases d with
  | tup l =>
    have h' : (decide (l.length = m) && (l.map (betD lo hi)).all id) = true := h
    rw [Bool.and_eq_true, decide_eq_true_eq] at h'
    obtain ⟨e, hx⟩ := ints_of h'.2
    refine ⟨intsD l, by rw [← e], ?_, hx⟩
    have := congrArg List.length e
    rw [List.length_map] at this
    omega
  | _ => cases h
theorem opnB_of {m : Nat} {d : D} (h : opnB m d = true) : ∃ xs : List Nat, d = .tup (xs.map nI) ∧ xs.Pairwise (· < ·) ∧ ∀ x ∈ xs, x < m := by
  cases d with
  | tup l =>
    have h' : ((l.map (betD 0 ((m : Nat) - 1))).all id && ascI (intsD l)) = true := h
    rw [Bool.and_eq_true] at h'
    obtain ⟨e, hx⟩ := ints_of h'.1
    have hp := asc_pair h'.2
    refine ⟨(intsD l).map Int.toNat, ?_, ?_, fun x hx' => ?_⟩
    · congr 1
      rw [List.map_map]
      conv => lhs; rw [e]
      refine List.map_congr_left fun x hx' => ?_
      have := hx x hx'
      show D.int x = D.int ((x.toNat : Nat) : Int)
      congr 1
      omega
    · rw [List.pairwise_map]
      exact List.Pairwise.imp_of_mem (fun {a b} ha hb hab => by
        have := hx a ha
        have := hx b hb
        omega) hp
    · obtain ⟨y, hy, rfl⟩ := List.mem_map.mp hx'
      have := hx y hy
      omega
  | _ => cases h
theorem row_is {m : Nat} {lo hi : Int} {xs : List Int} (h : xs.length = m) (hx : ∀ x ∈ xs, lo ≤ x ∧ x ≤ hi) : rowB m lo hi (.tup (xs.map D.int)) = true := by
  show (decide ((xs.map D.int).length = m) && ((xs.map D.int).map (betD lo hi)).all id) = true
  rw [decide_eq_true (by rw [List.length_map]; exact h), Bool.true_and, List.map_map, List.all_eq_true]
  intro y hy
  obtain ⟨x, h1, rfl⟩ := List.mem_map.mp hy
  have := hx x h1
  show (decide (lo ≤ x) && decide (x ≤ hi)) = true
  rw [decide_eq_true this.1, decide_eq_true this.2]
  rfl
theorem map_nI (xs : List Nat) : xs.map nI = (xs.map fun (k : Nat) => (k : Int)).map D.int := by rw [List.map_map]; rfl
theorem opn_is {m : Nat} {xs : List Nat} (h : xs.Pairwise (· < ·)) (hx : ∀ x ∈ xs, x < m) : opnB m (.tup (xs.map nI)) = true := by
  show (((xs.map nI).map (betD 0 ((m : Nat) - 1))).all id && ascI (intsD (xs.map nI))) = true
  rw [map_nI, intsD_map, Bool.and_eq_true]
  refine ⟨?_, pair_asc ?_⟩
  · rw [List.map_map, List.map_map, List.all_eq_true]
    intro y hy
    obtain ⟨x, h1, rfl⟩ := List.mem_map.mp hy
    have := hx x h1
    show (decide ((0 : Int) ≤ (x : Int)) && decide ((x : Int) ≤ (m : Nat) - 1)) = true
    rw [decide_eq_true (by omega), decide_eq_true (by omega)]
    rfl
  · rw [List.pairwise_map]
    exact h.imp fun hab => by omega
theorem tick_of {b : Bk} {d : D} (h : tickB b d = true) : d = tickD (tk d) ∧ TickOk b (tk d) := by
  unfold tickB at h
  split at h
  · rename_i a o g
    unfold tick3 at h
    rw [Bool.and_eq_true, Bool.and_eq_true] at h
    obtain ⟨xs, rfl, x1, x2⟩ := rowB_of h.1
    obtain ⟨ys, rfl, y1, y2⟩ := opnB_of h.2.1
    obtain ⟨zs, rfl, z1, z2⟩ := rowB_of h.2.2
    have e : tk (.tup [.tup (xs.map D.int), .tup (ys.map nI), .tup (zs.map D.int)]) = (xs, ys, zs) := by
      show (intsD (xs.map D.int), (intsD (ys.map nI)).map Int.toNat, intsD (zs.map D.int)) = _
      rw [intsD_map, intsD_map, map_nI, intsD_map, List.map_map]
      have : (Int.toNat ∘ fun (k : Nat) => (k : Int)) = id := by funext k; simp
      rw [this, List.map_id]
    rw [e]
    exact ⟨rfl, x1, x2, y2, y1, z1, z2⟩
  · cases h
theorem tk_tick (t : Tick) : tk (tickD t) = t := by
  obtain ⟨a, o, g⟩ := t
  show (intsD (a.map D.int), (intsD (o.map nI)).map Int.toNat, intsD (g.map D.int)) = _
  rw [intsD_map, intsD_map, map_nI, intsD_map, List.map_map]
  have : (Int.toNat ∘ fun (k : Nat) => (k : Int)) = id := by funext k; simp
  rw [this, List.map_id]
theorem tick_is {b : Bk} {t : Tick} (h : TickOk b t) : tickB b (tickD t) = true := by
  show (rowB _ _ _ _ && (opnB _ _ && rowB _ _ _ _)) = true
  rw [row_is h.p h.pn, opn_is h.asc h.o, row_is h.g h.gn]
  rfl
/-- what is left behind the ticks of a window -/
def leftW (b : Bk) (win : List Tick) : List Int × List Int := win.foldl left1 (left0 b)
def goodL (lf : List Int × List Int) : Bool := (lf.1 ++ lf.2).all fun x => decide (0 ≤ x)
def wN (b : Bk) : Nat := b.window.toNat
def winAt (b : Bk) (ds : List D) (j : Nat) : List Tick := ((ds.drop (j / wN b * wN b)).take (j % wN b + 1)).map tk
def badAt (b : Bk) (ds : List D) (j : Nat) : Bool := !tickB b (ds.getD j .non) || !goodL (leftW b (winAt b ds j))
def firstB (b : Bk) (ds : List D) : D := match (List.range ds.length).find? (badAt b ds) with
  | some j => .int (j : Nat)
  | none => .non
theorem first_some {b : Bk} {ds : List D} {j : Nat} (h1 : ∀ i, i < j → badAt b ds i = false) (h2 : badAt b ds j = true) (h3 : j < ds.length) : firstB b ds = .int (j : Nat) := by
  have : (List.range ds.length).find? (badAt b ds) = some j := by
    rw [List.find?_range_eq_some]
    exact ⟨h2, List.mem_range.mpr h3, fun i hi => by rw [h1 i hi]; rfl⟩
  unfold firstB
  rw [this]
theorem first_none {b : Bk} {ds : List D} (h1 : ∀ i, i < ds.length → badAt b ds i = false) : firstB b ds = .non := by
  have : (List.range ds.length).find? (badAt b ds) = none := by
    rw [List.find?_eq_none]
    intro i hi
    rw [h1 i (List.mem_range.mp hi)]
    decide
  unfold firstB
  rw [this]
theorem win_first {b : Bk} (hw : 1 ≤ wN b) {ds : List D} {j : Nat} {d : D} (hd : ds[j]? = some d) (h0 : j % wN b = 0) : winAt b ds j = [tk d] := by
  have e : j / wN b * wN b = j := by
    have := Nat.div_add_mod j (wN b)
    rw [h0, Nat.mul_comm] at this
    omega
  unfold winAt
  rw [h0, e]
  have hj := (List.getElem?_eq_some_iff.mp hd)
  obtain ⟨hl, rfl⟩ := hj
  rw [List.drop_eq_getElem_cons hl]
  rfl
theorem win_next {b : Bk} (hw : 1 ≤ wN b) {ds : List D} {j : Nat} {d : D} (hd : ds[j + 1]? = some d) (h0 : (j + 1) % wN b ≠ 0) : winAt b ds (j + 1) = winAt b ds j ++ [tk d] := by
  have e1 : (j + 1) / wN b = j / wN b := by
    rw [Nat.succ_div, if_neg (fun z => h0 (Nat.mod_eq_zero_of_dvd z)), Nat.add_zero]
  have e2 : (j + 1) % wN b = j % wN b + 1 := by
    have a1 := Nat.div_add_mod (j + 1) (wN b)
    have a2 := Nat.div_add_mod j (wN b)
    rw [e1] at a1
    omega
  unfold winAt
  rw [e1, e2]
  have hx : (ds.drop (j / wN b * wN b))[j % wN b + 1]? = some d := by
    rw [List.getElem?_drop]
    have a2 := Nat.div_add_mod j (wN b)
    rw [Nat.mul_comm] at a2
    rw [show j / wN b * wN b + (j % wN b + 1) = j + 1 by omega]
    exact hd
  rw [take_snoc hx, List.map_append]
  rfl
end DN

/-! first_bad, check_ticks, windows_in -/
namespace DN
open PySem PySem.Spec PyProof.Rows L2
variable [Tb]
theorem leftW_len {b : Bk} : ∀ {win : List Tick} {lf : List Int × List Int}, (∀ t ∈ win, t.1.length = b.stations.length) → lf.1.length = b.stations.length → lf.2.length = b.links.length → (win.foldl left1 lf).1.length = b.stations.length ∧ (win.foldl left1 lf).2.length = b.links.length
  | [], _, _, h1, h2 => ⟨h1, h2⟩
  | t :: r, lf, h, h1, h2 => by
    have ht := h t List.mem_cons_self
    have := left1_len lf t (by rw [h1, ht])
    have ih := leftW_len (win := r) (lf := left1 lf t) (fun t' ht' => h t' (List.mem_cons_of_mem _ ht')) (by rw [this.1, h1]) (by rw [this.2, h2])
    exact ih
theorem win_mem {b : Bk} {ds : List D} {j : Nat} {t : Tick} (h : t ∈ winAt b ds j) : ∃ i, i ≤ j ∧ ∃ d, ds[i]? = some d ∧ t = tk d := by
  unfold winAt at h
  obtain ⟨d, hd, rfl⟩ := List.mem_map.mp h
  obtain ⟨m, hm⟩ := List.getElem?_of_mem hd
  have hm1 := (List.getElem?_eq_some_iff.mp hm).1
  rw [List.length_take] at hm1
  rw [List.getElem?_take] at hm
  split at hm
  · rw [List.getElem?_drop] at hm
    have a2 := Nat.div_add_mod j (wN b)
    rw [Nat.mul_comm] at a2
    exact ⟨_, by omega, d, hm, rfl⟩
  · cases hm
theorem not_bad {b : Bk} {ds : List D} {i : Nat} {d : D} (h : badAt b ds i = false) (hd : ds[i]? = some d) : tickB b d = true ∧ goodL (leftW b (winAt b ds i)) = true := by
  unfold badAt at h
  rw [List.getD_eq_getElem?_getD, hd] at h
  rw [Bool.or_eq_false_iff] at h
  exact ⟨by simpa using h.1, by simpa using h.2⟩
theorem asc_len {m : Nat} : ∀ {xs : List Nat} {lo : Nat}, xs.Pairwise (· < ·) → (∀ x ∈ xs, lo ≤ x ∧ x < m) → xs.length ≤ m - lo
  | [], _, _, _ => Nat.zero_le _
  | x :: r, lo, h, hx => by
    have h0 := hx x List.mem_cons_self
    have ih := asc_len (lo := x + 1) (List.Pairwise.of_cons h) fun y hy => ⟨List.rel_of_pairwise_cons h hy, (hx y (List.mem_cons_of_mem _ hy)).2⟩
    rw [List.length_cons]
    omega
/-- an if whose ways meet again: the rest is told once -/
theorem sj_ifJ {ρ : Rh} {K : PySem.W.Frag} {E : XK} {δ : Dl} {tt : TT} {t u r : TS} {k1 k2 : Nat} {PT : Bool → Prop} {PO : Out → Prop} {R : Dl → Prop} (h : ET ρ K tt δ k1 PT) (hr : ∀ δ', R δ' → SJ ρ K E r δ' k2 PO) (ht : PT true → (∀ δ', R δ' → SJ ρ K E r δ' k2 PO) → SJ ρ K E (tSeq t r) δ k2 PO) (hf : PT false → (∀ δ', R δ' → SJ ρ K E r δ' k2 PO) → SJ ρ K E (tSeq u r) δ k2 PO) : SJ ρ K E (tSeq (tIfS tt t u) r) δ (k1 + (k2 + k2)) PO :=
  sj_ifs h (fun p => ht p hr) (fun p => hf p hr)
section
variable {P : Program} {w : World} {K : PySem.W.Frag} {mg : Str → Option Value} {base : Heap} {aH C : Addr}
theorem et_minNeg {ρ : Rh} {δ : Dl} {te : TE} {lf : List Int × List Int} (h : ED ρ K te δ (.lst ((lf.1 ++ lf.2).map D.int))) (h0 : 0 < (lf.1 ++ lf.2).length) : ET ρ K (tTest (tOp (rI0 fun i j => V.bl (decide (i < j))) (tCB (rMin K) (tCons te tNil)) (tC (.int 0)))) δ 0 (· = !goodL lf) := by
  refine et_test ?_
  refine ej_op (k1 := 0) (k2 := 0) (P1 := fun d => ∃ m, d = .int m ∧ m ∈ lf.1 ++ lf.2 ∧ ∀ y ∈ lf.1 ++ lf.2, m ≤ y) (P2 := (· = .int 0)) (ej_min h h0) (fun _ _ => ed_int) fun x y hx hy => ?_
  obtain ⟨m, rfl, h1, h2⟩ := hx
  subst hy
  refine ⟨_, ⟨_, rfl, ?_⟩, rj_B0⟩
  unfold goodL
  rw [Bool.eq_iff_iff]
  simp only [decide_eq_true_eq, Bool.not_eq_true', List.all_eq_false]
  constructor
  · intro hm
    exact ⟨m, h1, by simpa using hm⟩
  · rintro ⟨y, hy, hn⟩
    have := h2 y hy
    simp at hn
    omega
abbrev spFirst0 (K : PySem.W.Frag) (C : Addr) (b : Bk) (ds : List D) : Sp := spJ K 2 (fun _ xs => xs = [.ins C (bookF b), .tup ds] ∧ RdOk b ∧ ds.length ≤ 10000 ∧ ∀ d ∈ ds, TickAny d) 0 (fun _ r => r = firstB b ds)
def spFirst (K : PySem.W.Frag) (C : Addr) : Sp := fun vs H Q E => ∃ b ds, spFirst0 K C b ds vs H Q E
theorem ok_first {f : Addr} {fd : FuncData} (F : Fun K "first_bad" "first_bad" s_first_bad f fd) (T : Txw K mg) (c : BkC K C) (c_is_tick : C8.Cal P w K mg base 4 "is_tick" (spTick K C) []) (c_left_at_first : C8.Cal P w K mg base 1 "left_at_first" (spL0 K C) []) (c_left_behind : C8.Cal P w K mg base 1 "left_behind" (spL1 K) []) : FnOk P w K mg base CX0 5 f fd ["book", "value"] (spFirst K C) := by
  refine F.ok sc_first_bad (fun vs H Q E h => by obtain ⟨_, _, h⟩ := h; exact spJ_len h) (fun cdv A outer s H vs Q E hr h => ?_)
  obtain ⟨b, ds, h⟩ := h
  refine ⟨_, (pss_cons (ps_if (PW.pt (pw_or (pt_not (pt_val (pe_callB call_isi (by rfl) T.b_isinstance (by decide +kernel) (pa_cons (pv 1) (pa_cons (pe_bltn (v := .ty "tuple") (by rfl) T.b_tuple (by decide +kernel) rfl) pa_nil))))) (pw_or1 (pt_cmpR op_gt (pe_callB call_len_seq (by rfl) T.b_len (by decide +kernel) (pa_cons (pv 1) pa_nil)) (C8.pe_gc (by rfl) T.k_MOST_TICKS) (by first | exact nomark _ | rfl))))) (pss_one ps_never) pss_nil)
 (pss_cons (ps_for PassesOwn.never rfl (pi_enumT (by rfl) T.b_enumerate (pa_cons (pv 1) pa_nil)) (pg_tup rfl (pgs_cons (pg_name (i := 2) sc_first_bad.nd rfl (by first | exact Or.inl rfl | exact Or.inr rfl)) (pgs_cons (pg_name (i := 3) sc_first_bad.nd rfl (by first | exact Or.inl rfl | exact Or.inr rfl)) pgs_nil)))
  (pss_cons (ps_if (pt_not (pt_val (C8.pe_c c_is_tick hr (by omega) (by rfl) (pa_cons (pv 0) (pa_cons (pv 3) pa_nil))))) (pss_one (ps_ret (pv 2))) pss_nil)
 (pss_cons (ps_if (pt_cmpR op_eq (pe_op op_mod (pv 2) (pe_fld (pv 0) rfl)) pe_int (by first | exact nomark _ | rfl)) (pss_one (ps_set (i := 4) sc_first_bad.nd rfl (by first | exact Or.inl rfl | exact Or.inr rfl) (C8.pe_c c_left_at_first hr (by omega) (by rfl) (pa_cons (pv 0) pa_nil)))) pss_nil)
 (pss_cons (ps_set (i := 4) sc_first_bad.nd rfl (by first | exact Or.inl rfl | exact Or.inr rfl) (C8.pe_c c_left_behind hr (by omega) (by rfl) (pa_cons (pv 4) (pa_cons (pv 3) pa_nil))))
 (pss_one (ps_if (pt_cmpR op_lt (pe_callB (cr_min (by rfl)) (by rfl) T.b_min (by decide +kernel) (pa_cons (pe_lst (StX.pa_star (pe_ix ix_tup (pv 4) pe_int (fun _ _ => rfl)) (StX.pa_star (pe_ix ix_tup (pv 4) pe_int (fun _ _ => rfl)) pa_nil))) pa_nil)) pe_int (by first | exact nomark _ | rfl)) (pss_one (ps_ret (pv 2))) pss_nil))))))
 (pss_one (ps_ret pe_non)))), body_of (n := 2) (fun ρ xs hl hp => ?_) h⟩
  obtain ⟨rfl, ok, hlen, hany⟩ := hp
  try dsimp only [cxOf, Cx.nox, Cx.wish]
  have hn1 := ok.n1
  have hn2 := ok.n2
  have hnl := ok.nl
  have hw := ok.w
  have hwn : b.window = (wN b : Nat) := by unfold wN; omega
  have hw1 : 1 ≤ wN b := by unfold wN; omega
  let sl : Nat → Option Sl := fun j => if j = 0 then none else some (.val (leftD (leftW b (winAt b ds (j - 1)))))
  let eI : Option Sl → Dl := fun s => [some (.val (.ins C (bookF b))), some (.val (.tup ds)), none, none, s]
  refine ⟨0, Nat.le_refl _, ?_⟩
  · refine sj_le (k := 0 + 0 + (0 + (0 + (10000 * 0 + 0)))) ?_ (by decide)
    refine (SJ.mono (k' := 0 + 0 + (0 + (0 + (10000 * 0 + 0)))) (PO := (· = .rt (firstB b ds))) ?_ (Nat.le_refl _) fun o e => .inl ⟨_, e, rfl⟩)
    apply sj_ifs (k1 := 0 + 0) (k2 := 0) (k3 := 0 + (10000 * 0 + 0)) (PT := (· = false))
    · refine (eb_or (x := false) (y := decide ((10000 : Int) < (ds.length : Nat))) (eb_not (x := true) (eb_B (ed_isTup (d := .tup ds) rfl (ed_var rfl)))) fun _ => eb_test (ed_op (ed_cb (eda_cons (ed_var rfl) eda_nil) cj_lenT) (ed_c fun _ => .int _) (rj_B0 (f := fun i j => decide (j < i))))).mono (Nat.le_refl _) fun b e => ?_
      rw [e, decide_eq_false (by omega)]
      rfl
    · intro e; cases e
    intro _
    apply sj_nexts
    refine sj_for (L := [2, 3]) (k1 := 0) (kb := 0) (k2 := 0) (N := 10000) (PI := (· = enumD ds)) (ij_enumT (eda_cons (ed_var rfl) eda_nil)) (fun _ j δ' => δ' = eI (sl j) ∧ ∀ i, i < j → badAt b ds i = false) (fun _ => False) ?_ ?_ ?_ ?_
    · rintro _ rfl
      rw [show (enumD ds).length = ds.length by simp [enumD]]; exact hlen
    · rintro _ rfl
      exact ⟨rfl, fun i hi => by omega⟩
    · rintro _ j x _ rfl hx ⟨rfl, hno⟩
      obtain ⟨d, hd, rfl⟩ := enumD_get hx
      have hj := (List.getElem?_eq_some_iff.mp hd).1
      have hdm := List.mem_of_getElem? hd
      refine ⟨_, gj_tup (gsj_cons gj_name (gsj_cons gj_name gsj_nil)) rfl, ?_⟩
      apply sj_ifs (k1 := 0) (k2 := 0) (k3 := 0) (PT := (· = !tickB b d))
      · refine eb_not (eb_B ?_)
        exact ej_callS (n := 2) (PA := (· = [.ins C (bookF b), d])) (eda_cons (ed_var rfl) (eda_cons (ed_var rfl) eda_nil)) (fun vs H Q (h : spTick0 K C b d vs H Q _) => ⟨b, d, h⟩) (fun ds e => ⟨by subst e; rfl, e, ok, hany d hdm⟩) (fun ds d e h => h)
      · intro e
        apply sj_rets
        apply sj_retP (P := (· = .int (j : Nat))) (ed_var rfl)
        rintro _ rfl
        show Out.rt _ = .rt (firstB b ds)
        rw [first_some hno ?_ hj]
        unfold badAt
        rw [List.getD_eq_getElem?_getD, hd]
        show (!tickB b d || _) = true
        rw [← e]; rfl
      intro e
      have ht : tickB b d = true := by simpa using e
      obtain ⟨ed, tok⟩ := tick_of ht
      apply sj_nexts
      refine sj_ifJ (k1 := 0) (k2 := 0) (PT := (· = decide (j % wN b = 0))) (R := fun δ' => ∃ L : List Int × List Int, δ' = [some (.val (.ins C (bookF b))), some (.val (.tup ds)), some (.val (.int (j : Nat))), some (.val d), some (.val (leftD L))] ∧ left1 L (tk d) = leftW b (winAt b ds j) ∧ L.1.length = b.stations.length ∧ L.2.length = b.links.length) ?_ ?_ ?_ ?_
      · have h0 := eb_test (ed_op (ρ := ρ) (K := K) (δ := [some (.val (.ins C (bookF b))), some (.val (.tup ds)), some (.val (.int (j : Nat))), some (.val d), sl j]) (ed_op (ed_var (i := 2) rfl) (ed_window (ed_var (i := 0) rfl) c) (rj_I (f := fun i j => i % j) (C := fun _ j => 0 < j) (by omega))) (ed_int (i := 0)) rj_eqI)
        refine ET.mono h0 (Nat.le_refl _) fun b' e => ?_
        rw [e, Bool.eq_iff_iff, decide_eq_true_eq, decide_eq_true_eq, hwn]
        omega
      · rintro _ ⟨L, rfl, hL, h1, h2⟩
        have hl1 := left1_len L (tk d) (by rw [h1, tok.p])
        apply sj_set (k1 := 0) (k2 := 0) (P := (· = leftD (left1 L (tk d))))
        · refine ej_callS (n := 2) (PA := (· = [leftD L, tickD (tk d)])) (eda_cons (ed_var rfl) (eda_cons (by rw [← ed]; exact ed_var rfl) eda_nil)) (fun vs H Q (h : spL10 K L (tk d) vs H Q _) => ⟨_, _, h⟩) (fun ds e => ⟨by subst e; rfl, e, by rw [h1, tok.p], by omega, by omega, fun k hk => by rw [h2]; exact tok.o k hk, ?_⟩) (fun ds d e h => h)
          have := asc_len (lo := 0) tok.asc fun x hx => ⟨Nat.zero_le _, tok.o x hx⟩
          omega
        rintro _ rfl
        apply sj_last
        apply sj_ifs (k1 := 0) (k2 := 0) (k3 := 0) (PT := (· = !goodL (left1 L (tk d))))
        · refine et_minNeg ?_ (by rw [List.length_append, hl1.1, h1]; omega)
          have := ed_lst (ρ := ρ) (K := K) (eda_starL (ed_op (ed_var (i := 4) (δ := [some (.val (.ins C (bookF b))), some (.val (.tup ds)), some (.val (.int (j : Nat))), some (.val d), some (.val (leftD (left1 L (tk d))))]) rfl) ed_int (rj_ixT (i := 0) rfl)) (eda_starL (ed_op (ed_var (i := 4) rfl) ed_int (rj_ixT (i := 1) rfl)) eda_nil)) (by
            rw [List.append_nil, List.length_append, List.length_map, List.length_map, hl1.1, hl1.2]; omega)
          rw [List.append_nil, ← List.map_append] at this
          exact this
        · intro e
          apply sj_rets
          apply sj_retP (P := (· = .int (j : Nat))) (ed_var rfl)
          rintro _ rfl
          show Out.rt _ = .rt (firstB b ds)
          rw [first_some hno ?_ hj]
          unfold badAt
          rw [List.getD_eq_getElem?_getD, hd]
          show (!tickB b d || !goodL (leftW b (winAt b ds j))) = true
          rw [← hL, ← e, Bool.or_true]
        · intro e
          apply sj_nexts
          refine sj_nextW (δ' := eI (sl (j + 1))) ?_ ⟨rfl, fun i hi => ?_⟩
          · show Fewer [_, _, none, none, some (.val (leftD (leftW b (winAt b ds j))))] _
            rw [← hL]
            exact .keep (.keep (.drop (.drop (.keep .nil))))
          · by_cases hij : i < j
            · exact hno i hij
            · obtain rfl : i = j := by omega
              unfold badAt
              rw [List.getD_eq_getElem?_getD, hd]
              show (!tickB b d || !goodL (leftW b (winAt b ds i))) = false
              rw [ht, ← hL, ← e]
              rfl
      · intro e rest
        have h0 : j % wN b = 0 := of_decide_eq_true e.symm
        apply sj_set (k1 := 0) (k2 := 0) (P := (· = leftD (left0 b)))
        · exact ej_callS (n := 1) (PA := (· = [.ins C (bookF b)])) (eda_cons (ed_var rfl) eda_nil) (fun vs H Q (h : spL00 K C b vs H Q _) => ⟨b, h⟩) (fun ds e => ⟨by subst e; rfl, e, ok⟩) (fun ds d e h => h)
        rintro _ rfl
        refine rest _ ⟨left0 b, rfl, ?_, by show (b.stations.map _).length = _; rw [List.length_map], by show (b.links.map _).length = _; rw [List.length_map]⟩
        rw [win_first hw1 hd h0]
        rfl
      · intro e rest
        have h0 : j % wN b ≠ 0 := of_decide_eq_false e.symm
        obtain ⟨i, rfl⟩ : ∃ i, j = i + 1 := ⟨j - 1, by
          have : j ≠ 0 := fun z => h0 (by rw [z]; simp)
          omega⟩
        apply sj_nexts
        have hmem : ∀ t ∈ winAt b ds i, t.1.length = b.stations.length := fun t ht' => by
          obtain ⟨i', hi', d', hd', rfl⟩ := win_mem ht'
          exact (tick_of (not_bad (hno i' (by omega)) hd').1).2.p
        obtain ⟨l1, l2⟩ := leftW_len (lf := left0 b) hmem (by show (b.stations.map _).length = _; rw [List.length_map]) (by show (b.links.map _).length = _; rw [List.length_map])
        refine rest _ ⟨leftW b (winAt b ds i), rfl, ?_, l1, l2⟩
        rw [win_next hw1 hd h0]
        unfold leftW
        rw [List.foldl_append]
        rfl
    · rintro _ _ rfl (⟨rfl, hno⟩ | z)
      rotate_left
      · exact z.elim
      rw [show (enumD ds).length = ds.length by simp [enumD]] at hno
      apply sj_retP (P := (· = .non)) ed_non
      rintro _ rfl
      show Out.rt _ = .rt (firstB b ds)
      rw [first_none hno]
abbrev spCheck0 (K : PySem.W.Frag) (C : Addr) (b : Bk) (ds : List D) : Sp := spJ K 2 (fun _ xs => xs = [.ins C (bookF b), .tup ds] ∧ RdOk b ∧ ds.length ≤ 10000 ∧ (∀ d ∈ ds, TickAny d) ∧ firstB b ds = .non) 0 (fun _ r => r = .non)
def spCheck (K : PySem.W.Frag) (C : Addr) : Sp := fun vs H Q E => ∃ b ds, spCheck0 K C b ds vs H Q E
theorem ed_first {ρ : Rh} {δ : Dl} {ta tb : TE} {EE : XK} {b : Bk} {ds : List D} (ha : ED ρ K ta δ (.ins C (bookF b))) (hb : ED ρ K tb δ (.tup ds)) (ok : RdOk b) (hl : ds.length ≤ 10000) (hany : ∀ d ∈ ds, TickAny d) : ED ρ K (tCall (spFirst K C) [] EE (tCons ta (tCons tb tNil))) δ (firstB b ds) :=
  ej_callS (n := 2) (PA := (· = [.ins C (bookF b), .tup ds])) (eda_cons ha (eda_cons hb eda_nil)) (fun vs H Q (h : spFirst0 K C b ds vs H Q _) => ⟨_, _, h⟩) (fun ds e => ⟨by subst e; rfl, e, ok, hl, hany⟩) (fun ds d e h => h)
theorem rj_notN {d : D} (x : Bool) (h : ∀ {G : Hp} {v : V}, At K G v d → decide (v = .non) = x) : RJ K (fun x y H Q => y = .non ∧ Q (.bl (!decide (x = .non))) H) d .non (.bl !x) := .mk fun v y G H Q hx hy s q => by
  cases hy
  refine ⟨rfl, ?_⟩
  rw [h hx]
  exact q _ G H (Gd.refl s) (.bl _)
theorem ok_checkT {f : Addr} {fd : FuncData} (F : Fun K "check_ticks" "check_ticks" s_check_ticks f fd) (c_first_bad : C8.Cal P w K mg base 5 "first_bad" (spFirst K C) []) : FnOk P w K mg base CX0 6 f fd ["book", "ticks"] (spCheck K C) := by
  refine F.ok sc_check_ticks (fun vs H Q E h => by obtain ⟨_, _, h⟩ := h; exact spJ_len h) (fun cdv A outer s H vs Q E hr h => ?_)
  obtain ⟨b, ds, h⟩ := h
  refine ⟨_, (pss_cons (ps_set (i := 2) sc_check_ticks.nd rfl (by first | exact Or.inl rfl | exact Or.inr rfl) (C8.pe_c c_first_bad hr (by omega) (by rfl) (pa_cons (pv 0) (pa_cons (pv 1) pa_nil))))
 (pss_one (ps_if (pt_cmpR op_notN (pv 2) pe_non (by first | exact nomark _ | rfl)) (pss_one ps_never) pss_nil))), body_of (n := 2) (fun ρ xs hl hp => ?_) h⟩
  obtain ⟨rfl, ok, hlen, hany, hgood⟩ := hp
  try dsimp only [cxOf, Cx.nox, Cx.wish]
  refine ⟨0, Nat.le_refl _, ?_⟩
  apply sj_set (k1 := 0) (k2 := 0) (P := (· = .non))
  · rw [← hgood]
    exact ed_first (ed_var rfl) (ed_var rfl) ok hlen hany
  rintro _ rfl
  apply sj_last
  apply sj_ifs (k1 := 0) (k2 := 0) (k3 := 0) (PT := (· = false))
  · exact eb_test (ed_op (ed_var rfl) ed_non (rj_notN true (fun h => by cases h; rfl)))
  · intro e; cases e
  · intro _
    apply sj_nexts
    exact sj_nextP (.inr ⟨_, rfl, rfl⟩)
def winsD (b : Bk) (n : Nat) : D := .tup [.int ((n : Int) / b.window), .int ((n : Int) % b.window)]
abbrev spWins0 (K : PySem.W.Frag) (C : Addr) (b : Bk) (ds : List D) : Sp := spJ K 2 (fun _ xs => xs = [.ins C (bookF b), .tup ds] ∧ RdOk b ∧ ds.length ≤ 10000 ∧ (∀ d ∈ ds, TickAny d) ∧ firstB b ds = .non) 0 (fun _ r => r = winsD b ds.length)
def spWins (K : PySem.W.Frag) (C : Addr) : Sp := fun vs H Q E => ∃ b ds, spWins0 K C b ds vs H Q E
theorem ok_wins {f : Addr} {fd : FuncData} (F : Fun K "windows_in" "windows_in" s_windows_in f fd) (T : Txv K mg) (c : BkC K C) (c_check_ticks : C8.Cal P w K mg base 6 "check_ticks" (spCheck K C) []) : FnOk P w K mg base CX0 7 f fd ["book", "ticks"] (spWins K C) := by
  refine F.ok sc_windows_in (fun vs H Q E h => by obtain ⟨_, _, h⟩ := h; exact spJ_len h) (fun cdv A outer s H vs Q E hr h => ?_)
  obtain ⟨b, ds, h⟩ := h
  refine ⟨_, (pss_cons (ps_expr (C8.pe_c c_check_ticks hr (by omega) (by rfl) (pa_cons (pv 0) (pa_cons (pv 1) pa_nil))))
 (pss_one (ps_ret (pe_tup (pa_cons (pe_op op_fdivW (pe_callB call_len_seq (by rfl) T.b_len (by decide +kernel) (pa_cons (pv 1) pa_nil)) (pe_fld (pv 0) rfl)) (pa_cons (pe_op op_mod (pe_callB call_len_seq (by rfl) T.b_len (by decide +kernel) (pa_cons (pv 1) pa_nil)) (pe_fld (pv 0) rfl)) pa_nil)))))), body_of (n := 2) (fun ρ xs hl hp => ?_) h⟩
  obtain ⟨rfl, ok, hlen, hany, hgood⟩ := hp
  try dsimp only [cxOf, Cx.nox, Cx.wish]
  have hw := ok.w
  refine ⟨0, Nat.le_refl _, ?_⟩
  refine sj_drop (k1 := 0) (k2 := 0) (P := fun _ => True) (ej_callS (n := 2) (PA := (· = [.ins C (bookF b), .tup ds])) (eda_cons (ed_var rfl) (eda_cons (ed_var rfl) eda_nil)) (fun vs H Q (h : spCheck0 K C b ds vs H Q _) => ⟨_, _, h⟩) (fun ds e => ⟨by subst e; rfl, e, ok, hlen, hany, hgood⟩) (fun ds d e h => trivial)) ?_
  apply sj_retP (P := (· = winsD b ds.length))
  · refine ed_tup (eda_cons (ed_op (ed_cb (eda_cons (ed_var rfl) eda_nil) cj_lenT) (ed_window (ed_var rfl) c) (rj_I ⟨by omega, ?_⟩)) (eda_cons (ed_op (ed_cb (eda_cons (ed_var rfl) eda_nil) cj_lenT) (ed_window (ed_var rfl) c) (rj_I (by omega))) eda_nil)) (by show 2 ≤ 1000000; decide)
    exact PySem.Flt.log2_lt_of (by decide) (Nat.lt_of_le_of_lt (show b.window.natAbs ≤ 40 by omega) (Nat.lt_of_lt_of_le (show 40 < 2 ^ 6 by decide) (Nat.pow_le_pow_right (by decide) (by decide))))
  rintro _ rfl
  exact .inl ⟨_, rfl, rfl⟩
end
end DN

/-! the law's own reading of ticks -/
namespace DN
open PySem PySem.Spec PyProof.Rows L2
variable [Tb]
abbrev s__law_is_int : Stmt := topS 58
theorem sc__law_is_int : FnScope ["value", "least", "most"] ["value", "least", "most"] (defScope s__law_is_int) := ⟨rfl, rfl, rfl, by decide +kernel, rfl, by decide +kernel, by decide +kernel⟩
abbrev s__law_is_own_tick : Stmt := topS 59
theorem sc__law_is_own_tick : FnScope ["own", "value", "puts", "opens", "ages", "one", "other"] ["own", "value"] (defScope s__law_is_own_tick) := ⟨rfl, rfl, rfl, by decide +kernel, rfl, by decide +kernel, by decide +kernel⟩
abbrev s__law_can_be : Stmt := topS 60
theorem sc__law_can_be : FnScope ["own", "window", "rest", "at", "station", "link", "tick"] ["own", "window"] (defScope s__law_can_be) := ⟨rfl, rfl, rfl, by decide +kernel, rfl, by decide +kernel, by decide +kernel⟩
abbrev s__law_first_wrong : Stmt := topS 61
theorem sc__law_first_wrong : FnScope ["own", "ticks", "wide", "at", "tick"] ["own", "ticks"] (defScope s__law_first_wrong) := ⟨rfl, rfl, rfl, by decide +kernel, rfl, by decide +kernel, by decide +kernel⟩
theorem call_isiK {X : Cx} (K : PySem.W.Frag) (hK : X.K = K) : CallR X (.builtin "isinstance") (rIsi K) := by
  subst hK
  exact call_isi
theorem call_len_seqK {X : Cx} (K : PySem.W.Frag) (hK : X.K = K) : CallR X (.builtin "len") (fun xs H Q => ∃ p ys, xs = [.ref p] ∧ (SqL K H p ys ∨ SqT K H p ys) ∧ Q (.int ys.length) H) := by
  subst hK
  exact call_len_seq
/-! the numbers of what is left -/
theorem getD_zipW {xs ys : List Int} {i : Nat} (h : xs.length = ys.length) (hi : i < xs.length) : (List.zipWith (· - ·) xs ys).getD i 0 = xs.getD i 0 - ys.getD i 0 := by
  have hj : i < ys.length := by omega
  rw [List.getD_eq_getElem?_getD, List.getD_eq_getElem?_getD, List.getD_eq_getElem?_getD, List.getElem?_zipWith, List.getElem?_eq_getElem hi, List.getElem?_eq_getElem hj]
  rfl
theorem getD_addAt {xs : List Int} {n k : Nat} (hk : k < xs.length) : (addAt xs n).getD k 0 = xs.getD k 0 + if k = n then 1 else 0 := by
  unfold addAt
  rw [List.getD_eq_getElem?_getD, List.getElem?_set]
  by_cases h : n = k
  · subst h
    rw [if_pos rfl, if_pos hk, if_pos rfl]
    rfl
  · rw [if_neg h, if_neg (fun z => h z.symm), List.getD_eq_getElem?_getD]
    omega
theorem getD_fold : ∀ {ns : List Nat} {xs : List Int} {k : Nat}, ns.Nodup → k < xs.length → (ns.foldl addAt xs).getD k 0 = xs.getD k 0 + if k ∈ ns then 1 else 0
  | [], xs, k, _, hk => by simp
  | n :: r, xs, k, hn, hk => by
    rw [List.foldl_cons, getD_fold (List.Pairwise.of_cons hn) (by rw [addAt_len]; exact hk), getD_addAt hk]
    have h1 : n ∉ r := (List.nodup_cons.mp hn).1
    by_cases h : k = n
    · subst h
      rw [if_pos rfl, if_neg h1, if_pos List.mem_cons_self]
      omega
    · by_cases h2 : k ∈ r
      · rw [if_neg h, if_pos h2, if_pos (List.mem_cons_of_mem _ h2)]
        omega
      · rw [if_neg h, if_neg h2, if_neg (fun z => by
          rcases List.mem_cons.mp z with z | z
          · exact h z
          · exact h2 z)]
        omega
def putsAt (win : List Tick) (i : Nat) : Int := (win.map fun t => t.1.getD i 0).sum
def opensAt (win : List Tick) (k : Nat) : Nat := (win.filter fun t => decide (k ∈ t.2.1)).length
theorem left_at {b : Bk} : ∀ {win : List Tick} {lf : List Int × List Int}, (∀ t ∈ win, TickOk b t) → lf.1.length = b.stations.length → lf.2.length = b.links.length →
    (∀ i, i < b.stations.length → (win.foldl left1 lf).1.getD i 0 = lf.1.getD i 0 - putsAt win i) ∧ ∀ k, k < b.links.length → (win.foldl left1 lf).2.getD k 0 = lf.2.getD k 0 - win.length + opensAt win k
  | [], lf, _, _, _ => ⟨fun i _ => by show _ = _ - (0 : Int); simp, fun k _ => by show _ = _ - (0 : Int) + (0 : Int); simp⟩
  | t :: r, lf, h, h1, h2 => by
    have ht := h t List.mem_cons_self
    have hl := left1_len lf t (by rw [h1, ht.p])
    obtain ⟨a1, a2⟩ := left_at (win := r) (lf := left1 lf t) (fun t' ht' => h t' (List.mem_cons_of_mem _ ht')) (by rw [hl.1, h1]) (by rw [hl.2, h2])
    refine ⟨fun i hi => ?_, fun k hk => ?_⟩
    · rw [List.foldl_cons, a1 i hi]
      show (List.zipWith (· - ·) lf.1 t.1).getD i 0 - putsAt r i = _
      rw [getD_zipW (by rw [h1, ht.p]) (by omega)]
      show _ = _ - (t.1.getD i 0 + putsAt r i)
      omega
    · rw [List.foldl_cons, a2 k hk]
      show (t.2.1.foldl addAt (lf.2.map (· - 1))).getD k 0 - _ + _ = _
      rw [getD_fold (ht.asc.imp fun h => by omega) (by rw [List.length_map]; omega), List.getD_eq_getElem?_getD, List.getElem?_map, List.getElem?_eq_getElem (by omega), List.getD_eq_getElem?_getD, List.getElem?_eq_getElem (by omega)]
      have e : opensAt (t :: r) k = (if k ∈ t.2.1 then 1 else 0) + opensAt r k := by
        unfold opensAt
        rw [List.filter_cons]
        by_cases hm : k ∈ t.2.1
        · rw [if_pos hm, if_pos (decide_eq_true hm), List.length_cons]; omega
        · rw [if_neg hm, if_neg (by rw [decide_eq_false hm]; decide)]; omega
      rw [e, List.length_cons]
      show (lf.2[k] - 1 + _) - _ + _ = lf.2[k] - _ + _
      by_cases hm : k ∈ t.2.1
      · rw [if_pos hm, if_pos hm]; omega
      · rw [if_neg hm, if_neg hm]; omega
def okPu (b : Bk) (win : List Tick) (i : Nat) : Bool := match b.stations[i]? with
  | some s => decide (putsAt win i ≤ s.2.2)
  | none => true
def okOp (b : Bk) (win : List Tick) (k : Nat) : Bool := match b.links[k]? with
  | some l => decide (l.2.2.2 ≤ (opensAt win k : Nat) + (b.window - (win.length : Nat)))
  | none => true
theorem all_getD {xs : List Int} {p : Int → Bool} : xs.all p = true ↔ ∀ i, i < xs.length → p (xs.getD i 0) = true := by
  rw [List.all_eq_true]
  constructor
  · intro h i hi
    rw [List.getD_eq_getElem?_getD, List.getElem?_eq_getElem hi]
    exact h _ (List.getElem_mem hi)
  · intro h x hx
    obtain ⟨i, hi, rfl⟩ := List.mem_iff_getElem.mp hx
    have := h i hi
    rw [List.getD_eq_getElem?_getD, List.getElem?_eq_getElem hi] at this
    exact this
theorem good_iff {b : Bk} {win : List Tick} (h : ∀ t ∈ win, TickOk b t) : goodL (leftW b win) = true ↔ (∀ i, i < b.stations.length → okPu b win i = true) ∧ ∀ k, k < b.links.length → okOp b win k = true := by
  have hp : (left0 b).1.length = b.stations.length := by show (b.stations.map _).length = _; rw [List.length_map]
  have ho : (left0 b).2.length = b.links.length := by show (b.links.map _).length = _; rw [List.length_map]
  obtain ⟨a1, a2⟩ := left_at (lf := left0 b) h hp ho
  obtain ⟨l1, l2⟩ := leftW_len (lf := left0 b) (fun t ht => (h t ht).p) hp ho
  unfold goodL leftW
  rw [List.all_append, Bool.and_eq_true, all_getD, all_getD, l1, l2]
  refine and_congr (forall_congr' fun i => ?_) (forall_congr' fun k => ?_)
  · refine imp_congr_right fun hi => ?_
    rw [a1 i hi]
    unfold okPu
    show decide (0 ≤ (b.stations.map fun s => s.2.2).getD i 0 - _) = true ↔ _
    rw [List.getD_eq_getElem?_getD, List.getElem?_map, List.getElem?_eq_getElem hi]
    simp only [Option.map_some, Option.getD_some, decide_eq_true_eq]
    omega
  · refine imp_congr_right fun hk => ?_
    rw [a2 k hk]
    unfold okOp
    show decide (0 ≤ (b.links.map fun l => b.window - l.2.2.2).getD k 0 - _ + _) = true ↔ _
    rw [List.getD_eq_getElem?_getD, List.getElem?_map, List.getElem?_eq_getElem hk]
    simp only [Option.map_some, Option.getD_some, decide_eq_true_eq]
    omega
section
variable {P : Program} {w : World} {K : PySem.W.Frag} {mg : Str → Option Value} {base : Heap} {aH C : Addr}
abbrev spLInt (K : PySem.W.Frag) : Sp := spJ K 3 (fun _ ds => ∃ d lo hi, ds = [d, .int lo, .int hi] ∧ (tyA d).isSome = true) 0 (fun ds r => ∀ d lo hi, ds = [d, .int lo, .int hi] → r = .bl (betD lo hi d))
theorem ok_lint {f : Addr} {fd : FuncData} (F : Fun K "_law_is_int" "_law_is_int" s__law_is_int f fd) (T : Txv K mg) : FnOk P w K mg base CX0 1 f fd ["value", "least", "most"] (spLInt K) := by
  refine F.ok sc__law_is_int (fun vs H Q E h => spJ_len h) (fun cdv A outer s H vs Q E hr h => ?_)
  refine ⟨_, (pss_one (ps_ret (pe_and (pe_callB call_isi (by rfl) T.b_isinstance (by decide +kernel) (pa_cons (pv 0) (pa_cons (pe_bltn (v := .ty "int") (by rfl) T.b_int (by decide +kernel) rfl) pa_nil))) (pe_and (pe_not (pe_callB call_isi (by rfl) T.b_isinstance (by decide +kernel) (pa_cons (pv 0) (pa_cons (pe_bltn (v := .ty "bool") (by rfl) T.b_bool (by decide +kernel) rfl) pa_nil)))) (pe_one (pe_chain op_le op_le (pv 1) (pv 0) (pv 2))))))), body_of (n := 3) (fun ρ ds hl hp => ?_) h⟩
  obtain ⟨d, lo, hi, rfl, hd⟩ := hp
  obtain ⟨t, b1, b2, e1, e2, e3, e4, _, _⟩ := ty_casesA hd
  try dsimp only [cxOf, Cx.nox, Cx.wish]
  apply ex_k
  · apply sj_retP (P := (· = .bl (betD lo hi d)))
    · have hb : betD lo hi d = (b1 && (!b2 && betD lo hi d)) := by
        have h0 : betD lo hi d = (isIntD d && betD lo hi d) := by cases d <;> rfl
        rw [h0, ← e4, ← Bool.and_assoc]
        cases b1 <;> cases b2 <;> simp
      rw [hb]
      refine ed_andV (ed_cb (eda_cons (ed_var rfl) (eda_cons ed_opq eda_nil)) (cj_isiA e1 e2)) fun hb1 => ed_andV (ed_notV (ed_cb (eda_cons (ed_var rfl) (eda_cons ed_opq eda_nil)) (cj_isiA e1 (e3 hb1)))) fun hb2 => ?_
      have hi' : isIntD d = true := by rw [← e4, hb1, hb2]; rfl
      cases d with
      | int n => exact ed_leLe (ed_var rfl) (ed_var rfl) (ed_var rfl)
      | _ => cases hi'
    rintro _ rfl
    exact .inl ⟨_, rfl, fun d' lo' hi' e => by cases e; rfl⟩
  · decide
theorem ed_lint {ρ : Rh} {δ : Dl} {ta tb tc : TE} {E : XK} {d : D} {lo hi : Int} (hd : (tyA d).isSome = true) (ha : ED ρ K ta δ d) (hb : ED ρ K tb δ (.int lo)) (hc : ED ρ K tc δ (.int hi)) : ED ρ K (tCall (spLInt K) [] E (tCons ta (tCons tb (tCons tc tNil)))) δ (.bl (betD lo hi d)) :=
  ej_call (PA := (· = [d, .int lo, .int hi])) (eda_cons ha (eda_cons hb (eda_cons hc eda_nil))) (fun ds e => ⟨by subst e; rfl, _, _, _, e, hd⟩) (fun ds r e h' => h' _ _ _ e)
theorem ed_allLint {ρ : Rh} {δ : Dl} {te ta tb : TE} {i : Nat} {l : List D} {lo hi : Int} {EE : XK} (h : ED ρ K te δ (.tup l)) (hi' : i < δ.length) (hl : l.length ≤ 100000) (ht : ∀ x ∈ l, (tyA x).isSome = true) (ha : ∀ d, ED ρ K ta ((wipeD δ [i]).set i (some (.val d))) (.int lo)) (hb : ∀ d, ED ρ K tb ((wipeD δ [i]).set i (some (.val d))) (.int hi)) :
    ED ρ K (tCB (rAll K) (tCons (tLc (iTup K te) (gName i) tYes (tCall (spLInt K) [] EE (tCons (tVar i) (tCons ta (tCons tb tNil)))) [i]) tNil)) δ (.bl ((l.map (betD lo hi)).all id)) := by
  refine ed_cb (eda_cons (EN.ej ?_) eda_nil) (cj_all (bs := l.map (betD lo hi)))
  refine (en_lcE (L := [i]) (ds := l) (p := fun _ => true) (f := fun d => .bl (betD lo hi d)) (δt := fun d => (wipeD δ [i]).set i (some (.val d))) (ij_tup h) (fun i h => h) (by omega) (fun d _ => gj_name) (fun d _ => eb_yes) (fun d hd _ => ed_lint (ht d hd) (ed_var (wipeD_set hi')) (ha d) (hb d))).mono (Nat.le_refl _) fun r e => ?_
  rw [e, filt_true, List.map_map]
  rfl
abbrev spLTick0 (K : PySem.W.Frag) (b : Bk) (d : D) : Sp := spJ K 2 (fun _ ds => ds = [bkD b, d] ∧ RdOk b ∧ TickAny d) 0 (fun _ r => r = .bl (tickB b d))
def spLTick (K : PySem.W.Frag) : Sp := fun vs H Q E => ∃ b d, spLTick0 K b d vs H Q E
theorem ok_ltick {f : Addr} {fd : FuncData} (F : Fun K "_law_is_own_tick" "_law_is_own_tick" s__law_is_own_tick f fd) (T : Txv K mg) (c__law_is_int : C8.Cal P w K mg base 1 "_law_is_int" (spLInt K) []) : FnOk P w K mg base CX0 2 f fd ["own", "value"] (spLTick K) := by
  refine F.ok sc__law_is_own_tick (fun vs H Q E h => by obtain ⟨_, _, h⟩ := h; exact spJ_len h) (fun cdv A outer s H vs Q E hr h => ?_)
  obtain ⟨b, d, h⟩ := h
  refine ⟨_, (pss_cons (ps_if (PW.pt (pw_or (pt_not (pt_val (pe_callB call_isi (by rfl) T.b_isinstance (by decide +kernel) (pa_cons (pv 1) (pa_cons (pe_bltn (v := .ty "tuple") (by rfl) T.b_tuple (by decide +kernel) rfl) pa_nil))))) (pw_or (pt_cmpR op_ne (pe_callB call_len_seq (by rfl) T.b_len (by decide +kernel) (pa_cons (pv 1) pa_nil)) pe_int (by first | exact nomark _ | rfl)) (pw_or1 (pt_not (pt_val (pe_callB (cr_all (by rfl)) (by rfl) T.b_all (by decide +kernel) (pa_cons (pe_lc (own := [("one", 5)]) rfl sc__law_is_own_tick.nd (pi_tup (pv 1)) (blkOk_by (N := ["own", "value", "puts", "opens", "ages", "one", "other"]) (sc := defScope s__law_is_own_tick) (by decide +kernel)) (fun _ _ _ _ _ => (pg_name (i := 5) sc__law_is_own_tick.nd rfl (by first | exact Or.inl rfl | exact Or.inr rfl))) (fun _ _ _ _ _ => pts_nil) (fun _ _ _ _ _ => (pe_callB (call_isiK K rfl) (by rfl) T.b_isinstance (by decide +kernel) (pa_cons (pv 5) (pa_cons (pe_bltn (v := .ty "tuple") (by rfl) T.b_tuple (by decide +kernel) rfl) pa_nil))))) pa_nil)))))))) (pss_one (ps_ret pe_bl)) pss_nil)
 (pss_cons (ps_asg (pv 1) (pg_tup rfl (pgs_cons (pg_name (i := 2) sc__law_is_own_tick.nd rfl (by first | exact Or.inl rfl | exact Or.inr rfl)) (pgs_cons (pg_name (i := 3) sc__law_is_own_tick.nd rfl (by first | exact Or.inl rfl | exact Or.inr rfl)) (pgs_cons (pg_name (i := 4) sc__law_is_own_tick.nd rfl (by first | exact Or.inl rfl | exact Or.inr rfl)) pgs_nil)))))
 (pss_cons (ps_if (PW.pt (pw_or (pt_cmpR op_ne (pe_callB call_len_seq (by rfl) T.b_len (by decide +kernel) (pa_cons (pv 2) pa_nil)) (pe_callB call_len_seq (by rfl) T.b_len (by decide +kernel) (pa_cons (pe_dget (hu_of hr) (pv 0) pe_str (fun _ _ => rfl)) pa_nil)) (by first | exact nomark _ | rfl)) (pw_or1 (pt_not (pt_val (pe_callB (cr_all (by rfl)) (by rfl) T.b_all (by decide +kernel) (pa_cons (pe_lc (own := [("one", 5)]) rfl sc__law_is_own_tick.nd (pi_tup (pv 2)) (blkOk_by (N := ["own", "value", "puts", "opens", "ages", "one", "other"]) (sc := defScope s__law_is_own_tick) (by decide +kernel)) (fun _ _ _ _ _ => (pg_name (i := 5) sc__law_is_own_tick.nd rfl (by first | exact Or.inl rfl | exact Or.inr rfl))) (fun _ _ _ _ _ => pts_nil) (fun _ _ _ _ _ => (C8.pe_c c__law_is_int hr (by omega) (by rfl) (pa_cons (pv 5) (pa_cons pe_int (pa_cons (pe_op op_powW pe_int pe_int) pa_nil)))))) pa_nil))))))) (pss_one (ps_ret pe_bl)) pss_nil)
 (pss_cons (ps_if (pt_not (pt_val (pe_callB (cr_all (by rfl)) (by rfl) T.b_all (by decide +kernel) (pa_cons (pe_lc (own := [("one", 5)]) rfl sc__law_is_own_tick.nd (pi_tup (pv 3)) (blkOk_by (N := ["own", "value", "puts", "opens", "ages", "one", "other"]) (sc := defScope s__law_is_own_tick) (by decide +kernel)) (fun _ _ _ _ _ => (pg_name (i := 5) sc__law_is_own_tick.nd rfl (by first | exact Or.inl rfl | exact Or.inr rfl))) (fun _ _ _ _ _ => pts_nil) (fun _ _ _ _ _ => (C8.pe_c c__law_is_int hr (by omega) (by rfl) (pa_cons (pv 5) (pa_cons pe_int (pa_cons (pe_op op_sub (pe_callB (call_len_seqK K rfl) (by rfl) T.b_len PySem.boot_len (pa_cons (pe_dget (hu_of hr) (pv 0) pe_str (fun _ _ => rfl)) pa_nil)) pe_int) pa_nil)))))) pa_nil)))) (pss_one (ps_ret pe_bl)) pss_nil)
 (pss_cons (ps_if (PW.pt (pw_or (pt_not (pt_val (pe_callB (cr_all (by rfl)) (by rfl) T.b_all (by decide +kernel) (pa_cons (pe_lc (own := [("one", 5), ("other", 6)]) (g := (gTup K 2 (gCons (gName 5) (gCons (gName 6) gNil)))) rfl sc__law_is_own_tick.nd (RZ.pi_zipA (by rfl) T.b_zip (pa_cons (pv 3) (pa_cons (pe_slice (sl_tupAK K rfl) (pv 3) (po_some pe_int) po_none) pa_nil))) (blkOk_by (N := ["own", "value", "puts", "opens", "ages", "one", "other"]) (sc := defScope s__law_is_own_tick) (by decide +kernel)) (fun _ _ _ _ _ => (pg_tup rfl (pgs_cons (pg_name (i := 5) sc__law_is_own_tick.nd rfl (by first | exact Or.inl rfl | exact Or.inr rfl)) (pgs_cons (pg_name (i := 6) sc__law_is_own_tick.nd rfl (by first | exact Or.inl rfl | exact Or.inr rfl)) pgs_nil)))) (fun _ _ _ _ _ => pts_nil) (fun _ _ _ _ _ => (pe_cmpR op_lt (pv 5) (pv 6) (by first | exact nomark _ | rfl)))) pa_nil)))) (pw_or1 (pt_cmpR op_ne (pe_callB call_len_seq (by rfl) T.b_len (by decide +kernel) (pa_cons (pv 4) pa_nil)) (pe_callB (call_len_seqK K rfl) (by rfl) T.b_len PySem.boot_len (pa_cons (pe_dget (hu_of hr) (pv 0) pe_str (fun _ _ => rfl)) pa_nil)) (by first | exact nomark _ | rfl))))) (pss_one (ps_ret pe_bl)) pss_nil)
 (pss_one (ps_ret (pe_callB (cr_all (by rfl)) (by rfl) T.b_all (by decide +kernel) (pa_cons (pe_lc (own := [("one", 5)]) rfl sc__law_is_own_tick.nd (pi_tup (pv 4)) (blkOk_by (N := ["own", "value", "puts", "opens", "ages", "one", "other"]) (sc := defScope s__law_is_own_tick) (by decide +kernel)) (fun _ _ _ _ _ => (pg_name (i := 5) sc__law_is_own_tick.nd rfl (by first | exact Or.inl rfl | exact Or.inr rfl))) (fun _ _ _ _ _ => pts_nil) (fun _ _ _ _ _ => (C8.pe_c c__law_is_int hr (by omega) (by rfl) (pa_cons (pv 5) (pa_cons pe_int (pa_cons (pe_dget (hu_of hr) (pv 0) pe_str (fun _ _ => rfl)) pa_nil)))))) pa_nil))))))))), body_of (n := 2) (fun ρ ds hl hp => ?_) h⟩
  obtain ⟨rfl, okb, ok⟩ := hp
  try dsimp only [cxOf, Cx.nox, Cx.wish]
  let e0 : Dl := initD 7 [bkD b, d]
  refine ⟨0, Nat.le_refl _, ?_⟩
  refine (SJ.mono (k' := 0) (PO := (· = .rt (.bl (tickB b d)))) ?_ (Nat.le_refl _) fun o e => .inl ⟨_, e, rfl⟩)
  have rowN : ∀ {m : Nat} {lo hi : Int} {x : D}, isTupD x = false → rowB m lo hi x = false := fun {m lo hi x} h => by cases x <;> first | rfl | cases h
  have opnN : ∀ {m : Nat} {x : D}, isTupD x = false → opnB m x = false := fun {m x} h => by cases x <;> first | rfl | cases h
  have ret : ∀ {δ : Dl} {r : TS}, tickB b d = false → SJ ρ K E (tSeq (tRet (tC (.bl false))) r) δ 0 (· = .rt (.bl (tickB b d))) := fun {δ r} h => by
    apply sj_rets
    apply sj_retP (P := (· = .bl false)) ed_bl
    rintro _ rfl
    rw [h]
  by_cases h3 : ∃ a o g, d = .tup [a, o, g]
  · obtain ⟨a, o, g, rfl⟩ := h3
    obtain ⟨ra, ro, rg⟩ := ok.tup a o g rfl
    have e3 : tickB b (.tup [a, o, g]) = (rowB b.stations.length 0 1000000 a && (opnB b.links.length o && rowB b.links.length 0 b.late g)) := rfl
    apply sj_ifs (k1 := 0 + (0 + 0)) (k2 := 0) (k3 := 0) (PT := (· = !(isTupD a && (isTupD o && isTupD g))))
    · refine (eb_or (eb_not (eb_B (ed_isTup (d := .tup [a, o, g]) rfl (ed_var rfl)))) fun _ => eb_or (eb_test (ed_op (ed_cb (eda_cons (ed_var rfl) eda_nil) (cj_lenT (ds := [a, o, g]))) ed_int rj_neI)) fun _ => eb_not (eb_B (ed_cb (eda_cons (EN.ej (P := (· = .lst ([isTupD a, isTupD o, isTupD g].map D.bl))) ?_) eda_nil) (cj_all (bs := [isTupD a, isTupD o, isTupD g]))))).mono (Nat.le_refl _) fun b e => by rw [e]; simp [isTupD]
      refine (en_lcE (L := [5]) (ds := [a, o, g]) (p := fun _ => true) (f := fun d => .bl (isTupD d)) (ij_tup (ed_var rfl)) (fun i h => h) (by show 3 ≤ 1000000; decide) (fun d _ => gj_name) (fun d _ => eb_yes) (fun d hd _ => ?_)).mono (Nat.le_refl _) fun r e => by rw [e, filt_true]; rfl
      have hty : (tyA d).isSome = true := by
        simp only [List.mem_cons, List.not_mem_nil, or_false] at hd
        rcases hd with rfl | rfl | rfl
        · exact ra.ty
        · exact ro.ty
        · exact rg.ty
      exact ed_isTup hty (ed_var rfl)
    · intro e
      refine ret ?_
      rw [e3]
      cases ha : isTupD a with
      | false => rw [rowN ha]; rfl
      | true =>
        cases ho : isTupD o with
        | false => rw [opnN ho, Bool.false_and, Bool.and_false]
        | true =>
          cases hg : isTupD g with
          | false => rw [rowN hg, Bool.and_false, Bool.and_false]
          | true => rw [ha, ho, hg] at e; cases e
    intro e
    obtain ⟨la, rfl⟩ : ∃ l, a = .tup l := by
      cases a with
      | tup l => exact ⟨l, rfl⟩
      | _ => cases e
    obtain ⟨lo, rfl⟩ : ∃ l, o = .tup l := by
      cases o with
      | tup l => exact ⟨l, rfl⟩
      | _ => cases e
    obtain ⟨lg, rfl⟩ : ∃ l, g = .tup l := by
      cases g with
      | tup l => exact ⟨l, rfl⟩
      | _ => cases e
    obtain ⟨la1, la2⟩ := ra.tup la rfl
    obtain ⟨lo1, lo2⟩ := ro.tup lo rfl
    obtain ⟨lg1, lg2⟩ := rg.tup lg rfl
    apply sj_nexts
    let e1 : Dl := ((e0.set 2 (some (.val (.tup la)))).set 3 (some (.val (.tup lo)))).set 4 (some (.val (.tup lg)))
    refine sj_asg (k1 := 0) (k2 := 0) (L := [2, 3, 4]) (P := (· = .tup [.tup la, .tup lo, .tup lg])) (δ' := fun _ => e1) (ed_var rfl) ?_ ?_
    · rintro _ rfl
      exact gj_tup (gsj_cons gj_name (gsj_cons gj_name (gsj_cons gj_name gsj_nil))) rfl
    rintro _ rfl
    have stl : ∀ {δ : Dl} {te : TE}, ED ρ K te δ (bkD b) → ED ρ K (tCB (fun xs H Q => ∃ p ys, xs = [V.ref p] ∧ (SqL K H p ys ∨ SqT K H p ys) ∧ Q (V.int ys.length) H) (tCons (tDGet te (tC (V.str "stations"))) tNil)) δ (.int (b.stations.length : Nat)) := fun h => by
      have := ed_cb (eda_cons (ed_dget (x := .inr "stations") h ed_str (bk_stations b)) eda_nil) (cj_len (K := K))
      rw [List.length_map] at this
      exact this
    have lkl : ∀ {δ : Dl} {te : TE}, ED ρ K te δ (bkD b) → ED ρ K (tCB (fun xs H Q => ∃ p ys, xs = [V.ref p] ∧ (SqL K H p ys ∨ SqT K H p ys) ∧ Q (V.int ys.length) H) (tCons (tDGet te (tC (V.str "links"))) tNil)) δ (.int (b.links.length : Nat)) := fun h => by
      have := ed_cb (eda_cons (ed_dget (x := .inr "links") h ed_str (bk_links b)) eda_nil) (cj_len (K := K))
      rw [List.length_map] at this
      exact this
    have pw : ∀ {δ : Dl}, ED ρ K (tOp (rI CPowW fun i j => V.int (i ^ j.toNat)) (tC (V.int 10)) (tC (V.int 6))) δ (.int 1000000) := fun {δ} => by
      have h0 := ed_op (ρ := ρ) (K := K) (δ := δ) (ed_int (i := 10)) (ed_int (i := 6)) (rj_I (f := fun i j => i ^ j.toNat) (C := CPowW) ⟨by decide, by decide +kernel⟩)
      rw [show (10 : Int) ^ (6 : Int).toNat = 1000000 by decide] at h0
      exact h0
    have dec : ∀ {x y : Nat}, decide ((x : Int) = (y : Nat)) = decide (x = y) := fun {x y} => by
      rw [Bool.eq_iff_iff, decide_eq_true_eq, decide_eq_true_eq]; omega
    apply sj_ifs (k1 := 0 + 0) (k2 := 0) (k3 := 0) (PT := (· = !rowB b.stations.length 0 1000000 (.tup la)))
    · refine (eb_or (eb_test (ed_op (ed_cb (eda_cons (ed_var rfl) eda_nil) (cj_lenT (ds := la))) (stl (ed_var rfl)) rj_neI)) fun _ => eb_not (eb_B (ed_allLint (ed_var rfl) (by show 5 < 7; decide) la1 la2 (fun d => ed_int) (fun d => pw)))).mono (Nat.le_refl _) fun b' e => ?_
      rw [e, dec]
      show _ = !(decide (la.length = _) && (la.map (betD 0 1000000)).all id)
      rw [Bool.not_and]
    · intro e
      refine ret ?_
      rw [e3]
      have : rowB b.stations.length 0 1000000 (.tup la) = false := by simpa using e
      rw [this, Bool.false_and]
    intro e
    have e4 : rowB b.stations.length 0 1000000 (.tup la) = true := by simpa using e
    rw [e4, Bool.true_and] at e3
    have e5 : opnB b.links.length (.tup lo) = ((lo.map (betD 0 ((b.links.length : Nat) - 1))).all id && ascI (intsD lo)) := rfl
    apply sj_nexts
    apply sj_ifs (k1 := 0) (k2 := 0) (k3 := 0) (PT := (· = !(lo.map (betD 0 ((b.links.length : Nat) - 1))).all id))
    · exact eb_not (eb_B (ed_allLint (ed_var rfl) (by show 5 < 7; decide) lo1 lo2 (fun d => ed_int) (fun d => ed_op (lkl (ed_var rfl)) ed_int rj_I0)))
    · intro e
      refine ret ?_
      rw [e3, e5]
      have : (lo.map (betD 0 ((b.links.length : Nat) - 1))).all id = false := by simpa using e
      rw [this, Bool.false_and, Bool.false_and]
    intro e
    have e6 : (lo.map (betD 0 ((b.links.length : Nat) - 1))).all id = true := by simpa using e
    rw [e6, Bool.true_and] at e5
    obtain ⟨elo, _⟩ := ints_of e6
    have hil : (intsD lo).length ≤ 100000 := by
      have := congrArg List.length elo
      rw [List.length_map] at this
      omega
    apply sj_nexts
    apply sj_ifs (k1 := 0 + 0) (k2 := 0) (k3 := 0) (PT := (· = !(ascI (intsD lo) && decide (lg.length = b.links.length))))
    · refine (eb_or (eb_not (eb_B (ed_ascI (ns := intsD lo) (by rw [← elo]; exact ed_var rfl) hil (by show 5 < 7; decide) (by show 6 < 7; decide) (by decide)))) fun _ => eb_test (ed_op (ed_cb (eda_cons (ed_var rfl) eda_nil) (cj_lenT (ds := lg))) (lkl (ed_var rfl)) rj_neI)).mono (Nat.le_refl _) fun b' e => ?_
      rw [e, dec, Bool.not_and]
    · intro e
      refine ret ?_
      rw [e3, e5]
      show (ascI (intsD lo) && (decide (lg.length = b.links.length) && _)) = false
      rw [← Bool.and_assoc]
      have : (ascI (intsD lo) && decide (lg.length = b.links.length)) = false := by
        cases q : (ascI (intsD lo) && decide (lg.length = b.links.length)) with
        | false => rfl
        | true => rw [q] at e; cases e
      rw [this, Bool.false_and]
    intro e
    have e7 : (ascI (intsD lo) && decide (lg.length = b.links.length)) = true := by
      cases q : (ascI (intsD lo) && decide (lg.length = b.links.length)) with
      | true => rfl
      | false => rw [q] at e; cases e
    apply sj_nexts
    apply sj_retP (P := (· = .bl ((lg.map (betD 0 b.late)).all id)))
    · exact ed_allLint (ed_var rfl) (by show 5 < 7; decide) lg1 lg2 (fun d => ed_int) (fun d => ed_dget (x := .inr "late") (ed_var rfl) ed_str (bk_late b))
    rintro _ rfl
    rw [e3, e5]
    show _ = Out.rt (.bl (ascI (intsD lo) && (decide (lg.length = b.links.length) && _)))
    rw [← Bool.and_assoc, e7, Bool.true_and]
  · have hn : tickB b d = false := by
      unfold tickB
      split
      · exact absurd ⟨_, _, _, rfl⟩ h3
      · rfl
    apply sj_ifs (k1 := 0 + (0 + 0)) (k2 := 0) (k3 := 0) (PT := (· = true))
    · by_cases ht : ∃ l, d = .tup l
      · obtain ⟨l, rfl⟩ := ht
        have hl3 : decide ((l.length : Int) = 3) = false := decide_eq_false fun z => h3 (by
          have : l.length = 3 := by omega
          match l, this with
          | [a, o, g], _ => exact ⟨a, o, g, rfl⟩)
        have h0 := eb_not (eb_B (ρ := ρ) (K := K) (ed_isTup (d := .tup l) (δ := e0) (te := tVar 1) rfl (ed_var rfl)))
        refine et_or (PB := (· = true)) h0 (fun _ => ?_) (fun e => nomatch e) fun b e e2 => e2
        have h1 := eb_test (ed_op (ρ := ρ) (K := K) (δ := e0) (ed_cb (eda_cons (ed_var (i := 1) rfl) eda_nil) (cj_lenT (ds := l))) (ed_int (i := 3)) rj_neI)
        rw [hl3] at h1
        exact et_or (PB := fun _ => True) h1 (fun e => nomatch e) (fun _ => rfl) fun b e _ => nomatch e
      · have hf : isTupD d = false := by cases d <;> first | rfl | exact absurd ⟨_, rfl⟩ ht
        have h0 := eb_not (eb_B (ρ := ρ) (K := K) (ed_isTup (δ := e0) (te := tVar 1) ok.ty (ed_var rfl)))
        rw [hf] at h0
        exact et_or (PB := fun _ => True) h0 (fun e => nomatch e) (fun _ => rfl) fun b e _ => nomatch e
    · intro e
      exact ret hn
    · intro e; cases e
abbrev spCan0 (K : PySem.W.Frag) (b : Bk) (win : List Tick) : Sp := spJ K 2 (fun _ ds => ds = [bkD b, .tup (win.map tickD)] ∧ RdOk b ∧ win.length ≤ 10000 ∧ ∀ t ∈ win, TickOk b t) 0 (fun _ r => r = .bl (goodL (leftW b win)))
def spCan (K : PySem.W.Frag) : Sp := fun vs H Q E => ∃ b win, spCan0 K b win vs H Q E
theorem ok_can {f : Addr} {fd : FuncData} (F : Fun K "_law_can_be" "_law_can_be" s__law_can_be f fd) (T : Txv K mg) : FnOk P w K mg base CX0 1 f fd ["own", "window"] (spCan K) := by
  refine F.ok sc__law_can_be (fun vs H Q E h => by obtain ⟨_, _, h⟩ := h; exact spJ_len h) (fun cdv A outer s H vs Q E hr h => ?_)
  obtain ⟨b, win, h⟩ := h
  refine ⟨_, (pss_cons (ps_set (i := 2) sc__law_can_be.nd rfl (by first | exact Or.inl rfl | exact Or.inr rfl) (pe_op op_sub (pe_dget (hu_of hr) (pv 0) pe_str (fun _ _ => rfl)) (pe_callB call_len_seq (by rfl) T.b_len (by decide +kernel) (pa_cons (pv 1) pa_nil))))
 (pss_cons (ps_for PassesOwn.never rfl (pi_enum (by rfl) T.b_enumerate (pa_cons (pe_dget (hu_of hr) (pv 0) pe_str (fun _ _ => rfl)) pa_nil)) (pg_tup rfl (pgs_cons (pg_name (i := 3) sc__law_can_be.nd rfl (by first | exact Or.inl rfl | exact Or.inr rfl)) (pgs_cons (pg_name (i := 4) sc__law_can_be.nd rfl (by first | exact Or.inl rfl | exact Or.inr rfl)) pgs_nil)))
  (pss_one (ps_if (pt_cmpR op_gt (pe_callB (cr_sum (by rfl)) (by rfl) T.b_sum (by decide +kernel) (pa_cons (pe_lc (own := [("tick", 6)]) rfl sc__law_can_be.nd (pi_tup (pv 1)) (blkOk_by (N := ["own", "window", "rest", "at", "station", "link", "tick"]) (sc := defScope s__law_can_be) (by decide +kernel)) (fun _ _ _ _ _ => (pg_name (i := 6) sc__law_can_be.nd rfl (by first | exact Or.inl rfl | exact Or.inr rfl))) (fun _ _ _ _ _ => pts_nil) (fun _ _ _ _ _ => (pe_ix (r := rIxT K) ix_tup (pe_ix (r := rIxT K) ix_tup (pv 6) pe_int (fun _ _ => rfl)) (pv 3) (fun _ _ => rfl)))) pa_nil)) (pe_ix ix_tup (pv 4) pe_int (fun _ _ => rfl)) (by first | exact nomark _ | rfl)) (pss_one (ps_ret pe_bl)) pss_nil)))
 (pss_cons (ps_for PassesOwn.never rfl (pi_enum (by rfl) T.b_enumerate (pa_cons (pe_dget (hu_of hr) (pv 0) pe_str (fun _ _ => rfl)) pa_nil)) (pg_tup rfl (pgs_cons (pg_name (i := 3) sc__law_can_be.nd rfl (by first | exact Or.inl rfl | exact Or.inr rfl)) (pgs_cons (pg_name (i := 5) sc__law_can_be.nd rfl (by first | exact Or.inl rfl | exact Or.inr rfl)) pgs_nil)))
  (pss_one (ps_if (pt_cmpR op_lt (pe_op op_add (pe_callB call_len_seq (by rfl) T.b_len (by decide +kernel) (pa_cons (pe_lc (own := [("tick", 6)]) rfl sc__law_can_be.nd (pi_tup (pv 1)) (blkOk_by (N := ["own", "window", "rest", "at", "station", "link", "tick"]) (sc := defScope s__law_can_be) (by decide +kernel)) (fun _ _ _ _ _ => (pg_name (i := 6) sc__law_can_be.nd rfl (by first | exact Or.inl rfl | exact Or.inr rfl))) (fun _ _ _ _ _ => (pts_one (pt_cmpR (op_in_seqK K rfl) (pv 3) (pe_ix (r := rIxT K) ix_tup (pv 6) pe_int (fun _ _ => rfl)) (by first | exact nomark _ | rfl)))) (fun _ _ _ _ _ => (pv 6))) pa_nil)) (pv 2)) (pe_ix ix_tup (pv 5) pe_int (fun _ _ => rfl)) (by first | exact nomark _ | rfl)) (pss_one (ps_ret pe_bl)) pss_nil)))
 (pss_one (ps_ret pe_bl))))), body_of (n := 2) (fun ρ ds hl hp => ?_) h⟩
  obtain ⟨rfl, ok, hlen, hok⟩ := hp
  try dsimp only [cxOf, Cx.nox, Cx.wish]
  have hn2 := ok.n2
  have hnl := ok.nl
  have hw := ok.w
  have gi := good_iff hok
  let e0 : Dl := (initD 7 [bkD b, .tup (win.map tickD)]).set 2 (some (.val (.int (b.window - (win.length : Nat)))))
  have bad : goodL (leftW b win) ≠ true → goodL (leftW b win) = false := fun h => by simpa using h
  refine ⟨0, Nat.le_refl _, ?_⟩
  refine sj_le (k := 0 + (0 + (20 * 0 + (0 + (60 * 0 + 0))))) ?_ (by decide)
  refine (SJ.mono (k' := 0 + (0 + (20 * 0 + (0 + (60 * 0 + 0))))) (PO := (· = .rt (.bl (goodL (leftW b win))))) ?_ (Nat.le_refl _) fun o e => .inl ⟨_, e, rfl⟩)
  apply sj_set (k1 := 0) (P := (· = .int (b.window - (win.length : Nat))))
  · have := ed_cb (ρ := ρ) (K := K) (δ := initD 7 [bkD b, .tup (win.map tickD)]) (eda_cons (ed_var (i := 1) rfl) eda_nil) (cj_lenT (ds := win.map tickD))
    rw [List.length_map] at this
    exact ed_op (ed_dget (x := .inr "window") (ed_var rfl) ed_str (bk_window b)) this rj_I0
  rintro _ rfl
  refine sj_for (L := [3, 4]) (k1 := 0) (kb := 0) (k2 := 0 + (60 * 0 + 0)) (N := 20) (PI := (· = enumD (b.stations.map statD))) (ij_enum (eda_cons (ed_dget (x := .inr "stations") (ed_var rfl) ed_str (bk_stations b)) eda_nil)) (fun _ j δ' => δ' = e0 ∧ ∀ i, i < j → okPu b win i = true) (fun _ => False) ?_ ?_ ?_ ?_
  · rintro _ rfl
    rw [show (enumD (b.stations.map statD)).length = b.stations.length by simp [enumD]]; exact hn2
  · rintro _ rfl
    exact ⟨rfl, fun i hi => by omega⟩
  · rintro _ j x _ rfl hx ⟨rfl, hno⟩
    obtain ⟨y, hy, rfl⟩ := enumD_get hx
    rw [List.getElem?_map] at hy
    cases hs : b.stations[j]? with
    | none => rw [hs] at hy; cases hy
    | some s =>
      rw [hs] at hy
      obtain rfl := Option.some.inj hy
      have hj := (List.getElem?_eq_some_iff.mp hs).1
      have eok : okPu b win j = decide (putsAt win j ≤ s.2.2) := by unfold okPu; rw [hs]
      refine ⟨_, gj_tup (gsj_cons gj_name (gsj_cons gj_name gsj_nil)) rfl, ?_⟩
      apply sj_last
      apply sj_ifs (k1 := 0) (k2 := 0) (k3 := 0) (PT := (· = !okPu b win j))
      · have h0 : ED ρ K (tCB (rSum K) (tCons (tLc (iTup K (tVar 1)) (gName 6) tYes (tOp (rIxT K) (tOp (rIxT K) (tVar 6) (tC (V.int 0))) (tVar 3)) [6]) tNil)) ((e0.set 3 (some (.val (.int (j : Nat))))).set 4 (some (.val (statD s)))) (.int (putsAt win j)) := by
          refine ed_cb (eda_cons (EN.ej (P := (· = .lst ((win.map fun t => t.1.getD j 0).map D.int))) ?_) eda_nil) cj_sum
          refine (en_lcE (L := [6]) (ds := win.map tickD) (p := fun _ => true) (f := fun d => .int ((tk d).1.getD j 0)) (ij_tup (ed_var rfl)) (fun i h => h) (by rw [List.length_map]; omega) (fun d _ => gj_name) (fun d _ => eb_yes) (fun d hd _ => ?_)).mono (Nat.le_refl _) fun r e => ?_
          · obtain ⟨t, ht, rfl⟩ := List.mem_map.mp hd
            have hlt : j < t.1.length := by rw [(hok t ht).p]; exact hj
            rw [tk_tick, List.getD_eq_getElem?_getD, List.getElem?_eq_getElem hlt]
            exact ed_op (ed_op (ed_var rfl) ed_int (rj_ixT (i := 0) (d := .tup (t.1.map D.int)) rfl)) (ed_var rfl) (rj_ixT (atI_nat (by rw [List.getElem?_map, List.getElem?_eq_getElem hlt]; rfl)))
          · rw [e, filt_true, List.map_map, List.map_map]
            refine congrArg D.lst (List.map_congr_left fun t _ => ?_)
            show D.int ((tk (tickD t)).1.getD j 0) = _
            rw [tk_tick]
            rfl
        refine ET.mono (eb_test (ed_op h0 (ed_op (ed_var rfl) ed_int (rj_ixT (i := 2) (d := .int s.2.2) rfl)) (rj_B0 (f := fun i j => decide (j < i))))) (Nat.le_refl _) fun b' e => ?_
        rw [e, eok, Bool.eq_iff_iff]
        simp only [decide_eq_true_eq, Bool.not_eq_true', decide_eq_false_iff_not]
        omega
      · intro e
        apply sj_rets
        apply sj_retP (P := (· = .bl false)) ed_bl
        rintro _ rfl
        show Out.rt _ = .rt (.bl (goodL (leftW b win)))
        rw [bad fun h => by rw [(gi.mp h).1 j hj] at e; cases e]
      · intro e
        have e' : okPu b win j = true := by simpa using e
        apply sj_nexts
        refine sj_nextW (δ' := e0) (.keep (.keep (.keep (.drop (.drop (.keep (.keep .nil))))))) ⟨rfl, fun i hi => ?_⟩
        by_cases hij : i < j
        · exact hno i hij
        · obtain rfl : i = j := by omega
          exact e'
  rintro _ _ rfl (⟨rfl, hP⟩ | z)
  rotate_left
  · exact z.elim
  rw [show (enumD (b.stations.map statD)).length = b.stations.length by simp [enumD]] at hP
  refine sj_for (L := [3, 5]) (k1 := 0) (kb := 0) (k2 := 0) (N := 60) (PI := (· = enumD (b.links.map linkD))) (ij_enum (eda_cons (ed_dget (x := .inr "links") (ed_var rfl) ed_str (bk_links b)) eda_nil)) (fun _ j δ' => δ' = e0 ∧ ∀ i, i < j → okOp b win i = true) (fun _ => False) ?_ ?_ ?_ ?_
  · rintro _ rfl
    rw [show (enumD (b.links.map linkD)).length = b.links.length by simp [enumD]]; exact hnl
  · rintro _ rfl
    exact ⟨rfl, fun i hi => by omega⟩
  · rintro _ j x _ rfl hx ⟨rfl, hno⟩
    obtain ⟨y, hy, rfl⟩ := enumD_get hx
    rw [List.getElem?_map] at hy
    cases hs : b.links[j]? with
    | none => rw [hs] at hy; cases hy
    | some l =>
      rw [hs] at hy
      obtain rfl := Option.some.inj hy
      have hj := (List.getElem?_eq_some_iff.mp hs).1
      have eok : okOp b win j = decide (l.2.2.2 ≤ (opensAt win j : Nat) + (b.window - (win.length : Nat))) := by unfold okOp; rw [hs]
      refine ⟨_, gj_tup (gsj_cons gj_name (gsj_cons gj_name gsj_nil)) rfl, ?_⟩
      apply sj_last
      apply sj_ifs (k1 := 0) (k2 := 0) (k3 := 0) (PT := (· = !okOp b win j))
      · have h0 : ED ρ K (tCB (fun xs H Q => ∃ p ys, xs = [V.ref p] ∧ (SqL K H p ys ∨ SqT K H p ys) ∧ Q (V.int ys.length) H) (tCons (tLc (iTup K (tVar 1)) (gName 6) (tTest (tOp (rIn K false) (tVar 3) (tOp (rIxT K) (tVar 6) (tC (V.int 1))))) (tVar 6) [6]) tNil)) ((e0.set 3 (some (.val (.int (j : Nat))))).set 5 (some (.val (linkD l)))) (.int (opensAt win j : Nat)) := by
          have h1 := ed_cb (ρ := ρ) (K := K) (δ := ((e0.set 3 (some (.val (.int (j : Nat))))).set 5 (some (.val (linkD l))))) (eda_cons (EN.ej (P := (· = .lst ((win.filter fun t => decide (j ∈ t.2.1)).map tickD))) (te := tLc (iTup K (tVar 1)) (gName 6) (tTest (tOp (rIn K false) (tVar 3) (tOp (rIxT K) (tVar 6) (tC (V.int 1))))) (tVar 6) [6]) ?_) eda_nil) (cj_len (K := K))
          · rw [List.length_map] at h1
            exact h1
          refine (en_lcE (L := [6]) (ds := win.map tickD) (p := fun d => decide (j ∈ (tk d).2.1)) (f := fun d => d) (ij_tup (ed_var rfl)) (fun i h => h) (by rw [List.length_map]; omega) (fun d _ => gj_name) (fun d hd => ?_) (fun d hd _ => ed_var rfl)).mono (Nat.le_refl _) fun r e => ?_
          · obtain ⟨t, ht, rfl⟩ := List.mem_map.mp hd
            rw [tk_tick]
            refine eb_test (ed_op (ed_var rfl) (ed_op (ed_var rfl) ed_int (rj_ixT (i := 1) (d := .tup (t.2.1.map nI)) rfl)) ?_)
            rw [← any_nI]
            exact rj_inT (neg := false) rfl (atom_nI _)
          · rw [e, List.map_id']
            congr 1
            rw [List.filter_map]
            congr 1
            apply List.filter_congr
            intro t _
            show decide (j ∈ (tk (tickD t)).2.1) = _
            rw [tk_tick]
        refine ET.mono (eb_test (ed_op (ed_op h0 (ed_var rfl) rj_I0) (ed_op (ed_var rfl) ed_int (rj_ixT (i := 3) (d := .int l.2.2.2) rfl)) rj_B0)) (Nat.le_refl _) fun b' e => ?_
        rw [e, eok, Bool.eq_iff_iff]
        simp only [decide_eq_true_eq, Bool.not_eq_true', decide_eq_false_iff_not]
        omega
      · intro e
        apply sj_rets
        apply sj_retP (P := (· = .bl false)) ed_bl
        rintro _ rfl
        show Out.rt _ = .rt (.bl (goodL (leftW b win)))
        rw [bad fun h => by rw [(gi.mp h).2 j hj] at e; cases e]
      · intro e
        have e' : okOp b win j = true := by simpa using e
        apply sj_nexts
        refine sj_nextW (δ' := e0) (.keep (.keep (.keep (.drop (.keep (.drop (.keep .nil))))))) ⟨rfl, fun i hi => ?_⟩
        by_cases hij : i < j
        · exact hno i hij
        · obtain rfl : i = j := by omega
          exact e'
  rintro _ _ rfl (⟨rfl, hO⟩ | z)
  rotate_left
  · exact z.elim
  rw [show (enumD (b.links.map linkD)).length = b.links.length by simp [enumD]] at hO
  apply sj_retP (P := (· = .bl true)) ed_bl
  rintro _ rfl
  show Out.rt _ = .rt (.bl (goodL (leftW b win)))
  rw [gi.mpr ⟨hP, hO⟩]
end
end DN

/-! the first part that is wrong, by the law's own reading -/
namespace DN
open PySem PySem.Spec PyProof.Rows L2
variable [Tb]

theorem sIx_nat {n : Nat} {d k : Nat} (h : k ≤ n) : HT.sIx n d (some (k : Int)) = k := by
  unfold HT.sIx
  simp only
  rw [if_neg (by omega)]
  omega
theorem cut_both {ds : List D} {a c : Nat} (h1 : a ≤ c) (h2 : c ≤ ds.length) : cutD ds (some (a : Int)) (some (c : Int)) = (ds.drop a).take (c - a) := by
  unfold cutD
  rw [sIx_nat (k := a) (by omega), sIx_nat (k := c) h2]
section
variable {P : Program} {w : World} {K : PySem.W.Frag} {mg : Str → Option Value} {base : Heap} {aH C : Addr}
theorem ed_ltick {ρ : Rh} {δ : Dl} {ta tb : TE} {EE : XK} {b : Bk} {d : D} (ha : ED ρ K ta δ (bkD b)) (hb : ED ρ K tb δ d) (ok : RdOk b) (any : TickAny d) : ED ρ K (tCall (spLTick K) [] EE (tCons ta (tCons tb tNil))) δ (.bl (tickB b d)) :=
  ej_callS (n := 2) (PA := (· = [bkD b, d])) (eda_cons ha (eda_cons hb eda_nil)) (fun vs H Q (h : spLTick0 K b d vs H Q _) => ⟨_, _, h⟩) (fun ds e => ⟨by subst e; rfl, e, ok, any⟩) (fun ds d e h => h)
abbrev spWrong0 (K : PySem.W.Frag) (b : Bk) (ds : List D) : Sp := spJ K 2 (fun _ xs => xs = [bkD b, .tup ds] ∧ RdOk b ∧ ds.length ≤ 10000 ∧ ∀ d ∈ ds, TickAny d) 0 (fun _ r => r = firstB b ds)
def spWrong (K : PySem.W.Frag) : Sp := fun vs H Q E => ∃ b ds, spWrong0 K b ds vs H Q E
theorem ok_wrong {f : Addr} {fd : FuncData} (F : Fun K "_law_first_wrong" "_law_first_wrong" s__law_first_wrong f fd) (T : Txv K mg) (c__law_is_own_tick : C8.Cal P w K mg base 2 "_law_is_own_tick" (spLTick K) []) (c__law_can_be : C8.Cal P w K mg base 1 "_law_can_be" (spCan K) []) : FnOk P w K mg base CX0 3 f fd ["own", "ticks"] (spWrong K) := by
  refine F.ok sc__law_first_wrong (fun vs H Q E h => by obtain ⟨_, _, h⟩ := h; exact spJ_len h) (fun cdv A outer s H vs Q E hr h => ?_)
  obtain ⟨b, ds, h⟩ := h
  refine ⟨_, (pss_cons (ps_set (i := 2) sc__law_first_wrong.nd rfl (by first | exact Or.inl rfl | exact Or.inr rfl) (pe_dget (hu_of hr) (pv 0) pe_str (fun _ _ => rfl)))
 (pss_cons (ps_for PassesOwn.never rfl (pi_enumT (by rfl) T.b_enumerate (pa_cons (pv 1) pa_nil)) (pg_tup rfl (pgs_cons (pg_name (i := 3) sc__law_first_wrong.nd rfl (by first | exact Or.inl rfl | exact Or.inr rfl)) (pgs_cons (pg_name (i := 4) sc__law_first_wrong.nd rfl (by first | exact Or.inl rfl | exact Or.inr rfl)) pgs_nil)))
  (pss_one (ps_if (PW.pt (pw_or (pt_not (pt_val (C8.pe_c c__law_is_own_tick hr (by omega) (by rfl) (pa_cons (pv 0) (pa_cons (pv 4) pa_nil))))) (pw_or1 (pt_not (pt_val (C8.pe_c c__law_can_be hr (by omega) (by rfl) (pa_cons (pv 0) (pa_cons (pe_slice (sl_tupAK K rfl) (pv 1) (po_some (pe_op op_mulW (pe_op op_fdivW (pv 3) (pv 2)) (pv 2))) (po_some (pe_op op_add (pv 3) pe_int))) pa_nil)))))))) (pss_one (ps_ret (pe_callTy call_int1 (by rfl) T.b_int (by decide +kernel) (pa_cons (pv 3) pa_nil)))) pss_nil)))
 (pss_one (ps_ret pe_non)))), body_of (n := 2) (fun ρ xs hl hp => ?_) h⟩
  obtain ⟨rfl, ok, hlen, hany⟩ := hp
  try dsimp only [cxOf, Cx.nox, Cx.wish]
  have hw := ok.w
  have hwn : b.window = (wN b : Nat) := by unfold wN; omega
  have hw1 : 1 ≤ wN b := by unfold wN; omega
  have hw40 : wN b ≤ 40 := by unfold wN; omega
  let e0 : Dl := [some (.val (bkD b)), some (.val (.tup ds)), some (.val (.int (wN b : Nat))), none, none]
  refine ⟨0, Nat.le_refl _, ?_⟩
  refine sj_le (k := 0 + (0 + (10000 * 0 + 0))) ?_ (by decide)
  refine (SJ.mono (k' := 0 + (0 + (10000 * 0 + 0))) (PO := (· = .rt (firstB b ds))) ?_ (Nat.le_refl _) fun o e => .inl ⟨_, e, rfl⟩)
  apply sj_set (k1 := 0) (P := (· = .int (wN b : Nat)))
  · rw [← hwn]
    exact ed_dget (x := .inr "window") (ed_var rfl) ed_str (bk_window b)
  rintro _ rfl
  refine sj_for (L := [3, 4]) (k1 := 0) (kb := 0) (k2 := 0) (N := 10000) (PI := (· = enumD ds)) (ij_enumT (eda_cons (ed_var rfl) eda_nil)) (fun _ j δ' => δ' = e0 ∧ ∀ i, i < j → badAt b ds i = false) (fun _ => False) ?_ ?_ ?_ ?_
  · rintro _ rfl
    rw [show (enumD ds).length = ds.length by simp [enumD]]; exact hlen
  · rintro _ rfl
    exact ⟨rfl, fun i hi => by omega⟩
  · rintro _ j x _ rfl hx ⟨rfl, hno⟩
    obtain ⟨d, hd, rfl⟩ := enumD_get hx
    have hj := (List.getElem?_eq_some_iff.mp hd).1
    have ebad : badAt b ds j = (!tickB b d || !goodL (leftW b (winAt b ds j))) := by
      unfold badAt
      rw [List.getD_eq_getElem?_getD, hd]
      rfl
    refine ⟨_, gj_tup (gsj_cons gj_name (gsj_cons gj_name gsj_nil)) rfl, ?_⟩
    apply sj_last
    apply sj_ifs (k1 := 0 + 0) (k2 := 0) (k3 := 0) (PT := (· = badAt b ds j))
    · rw [ebad]
      refine eb_or (eb_not (eb_B (ed_ltick (ed_var rfl) (ed_var rfl) ok (hany d (List.mem_of_getElem? hd))))) fun ht => eb_not (eb_B ?_)
      have ht : tickB b d = true := by simpa using ht
      have hk : ∀ i, i ≤ j → ∀ d', ds[i]? = some d' → tickB b d' = true := fun i hi d' hd' => by
        by_cases hij : i < j
        · exact (not_bad (hno i hij) hd').1
        · obtain rfl : i = j := by omega
          rw [hd] at hd'
          cases hd'
          exact ht
      have a2 := Nat.div_add_mod j (wN b)
      rw [Nat.mul_comm] at a2
      have hslice : cutD ds (some ((j / wN b * wN b : Nat) : Int)) (some ((j + 1 : Nat) : Int)) = (winAt b ds j).map tickD := by
        rw [cut_both (by omega) (by omega), show j + 1 - j / wN b * wN b = j % wN b + 1 by omega]
        unfold winAt
        rw [List.map_map]
        refine (List.map_id' _).symm.trans (List.map_congr_left fun d' hd' => ?_)
        obtain ⟨m, hm⟩ := List.getElem?_of_mem hd'
        have hm1 := (List.getElem?_eq_some_iff.mp hm).1
        rw [List.length_take] at hm1
        rw [List.getElem?_take] at hm
        split at hm
        · rw [List.getElem?_drop] at hm
          exact (tick_of (hk _ (by omega) d' hm)).1
        · cases hm
      have hok : ∀ t ∈ winAt b ds j, TickOk b t := fun t ht => by
        obtain ⟨i, hi, d', hd', rfl⟩ := win_mem ht
        exact (tick_of (hk i hi d' hd')).2
      have hwl : (winAt b ds j).length ≤ 10000 := by
        unfold winAt
        rw [List.length_map, List.length_take, List.length_drop]; omega
      refine ej_callS (n := 2) (PA := (· = [bkD b, .tup ((winAt b ds j).map tickD)])) (eda_cons (ed_var rfl) (eda_cons ?_ eda_nil)) (fun vs H Q (h : spCan0 K b (winAt b ds j) vs H Q _) => ⟨_, _, h⟩) (fun ds e => ⟨by subst e; rfl, e, ok, hwl, hok⟩) (fun ds d e h => h)
      rw [← hslice]
      refine ed_slA (ed_var rfl) (eo_some ?_) (eo_some ?_)
      · have h0 := ed_op (ρ := ρ) (K := K) (δ := (e0.set 3 (some (.val (.int (j : Nat))))).set 4 (some (.val d))) (ed_op (ed_var (i := 3) rfl) (ed_var (i := 2) rfl) (rj_I (f := fun i j => i / j) (C := CDivW) ⟨by omega, ?_⟩)) (ed_var (i := 2) rfl) (rj_I (f := fun i j => i * j) (C := CMulW) ?_)
        · rw [show ((j : Int) / (wN b : Nat) * (wN b : Nat)) = ((j / wN b * wN b : Nat) : Int) by simp] at h0
          exact h0
        · exact PySem.Flt.log2_lt_of (by decide) (Nat.lt_of_le_of_lt (show ((wN b : Nat) : Int).natAbs ≤ 40 by omega) (Nat.lt_of_lt_of_le (show 40 < 2 ^ 6 by decide) (Nat.pow_le_pow_right (by decide) (by decide))))
        · have e : (j : Int) / (wN b : Nat) = ((j / wN b : Nat) : Int) := by simp
          have q2 : j / wN b ≤ 10000 := Nat.le_trans (Nat.div_le_self _ _) (by omega)
          rw [e]
          generalize j / wN b = q at q2
          exact wide_mul (a := 20) (b := 20) (by omega) (by omega) (by decide) (by decide) (by decide)
      · have h0 := ed_op (ρ := ρ) (K := K) (δ := (e0.set 3 (some (.val (.int (j : Nat))))).set 4 (some (.val d))) (ed_var (i := 3) rfl) (ed_int (i := 1)) (rj_I0 (f := fun i j => i + j))
        exact h0
    · intro e
      apply sj_rets
      apply sj_retP (P := (· = .int (j : Nat))) (ed_cb (eda_cons (ed_var rfl) eda_nil) cj_int)
      rintro _ rfl
      show Out.rt _ = .rt (firstB b ds)
      rw [first_some hno e.symm hj]
    · intro e
      apply sj_nexts
      refine sj_nextW (δ' := e0) (.keep (.keep (.keep (.drop (.drop .nil))))) ⟨rfl, fun i hi => ?_⟩
      by_cases hij : i < j
      · exact hno i hij
      · obtain rfl : i = j := by omega
        exact e.symm
  · rintro _ _ rfl (⟨rfl, hno⟩ | z)
    rotate_left
    · exact z.elim
    rw [show (enumD ds).length = ds.length by simp [enumD]] at hno
    apply sj_retP (P := (· = .non)) ed_non
    rintro _ rfl
    show Out.rt _ = .rt (firstB b ds)
    rw [first_none hno]
end
end DN

/-! bent ticks -/
namespace DN
open PySem PySem.Spec PyProof.Rows L2
variable [Tb]
abbrev s__law_bent_tick : Stmt := topS 62
theorem sc__law_bent_tick : FnScope ["pot", "own", "tick", "puts", "opens", "ages", "links", "late", "at", "one", "two", "some", "age"] ["pot", "own", "tick"] (defScope s__law_bent_tick) := ⟨rfl, rfl, rfl, by decide +kernel, rfl, by decide +kernel, by decide +kernel⟩
abbrev s__law_are_windows_right : Stmt := topS 63
theorem sc__law_are_windows_right : FnScope ["own", "book", "ticks", "wide", "many", "found", "at"] ["own", "book", "ticks"] (defScope s__law_are_windows_right) := ⟨rfl, rfl, rfl, by decide +kernel, rfl, by decide +kernel, by decide +kernel⟩
theorem rowInt {xs : List Int} (h : xs.length ≤ 1000) : RowAny (.tup (xs.map D.int)) := ⟨rfl, fun l e => by
  cases e
  refine ⟨by rw [List.length_map]; omega, fun x hx => ?_⟩
  obtain ⟨y, _, rfl⟩ := List.mem_map.mp hx
  rfl⟩
theorem rowTup {l : List D} (h : l.length ≤ 1000) (ht : ∀ x ∈ l, (tyA x).isSome = true) : RowAny (.tup l) := ⟨rfl, fun l' e => by
  cases e
  exact ⟨by omega, ht⟩⟩
theorem rowLst {l : List D} : RowAny (.lst l) := ⟨rfl, fun l e => nomatch e⟩
theorem rowNon : RowAny .non := ⟨rfl, fun l e => nomatch e⟩
theorem tick3A {a o g : D} (h1 : RowAny a) (h2 : RowAny o) (h3 : RowAny g) : TickAny (.tup [a, o, g]) := ⟨rfl, fun l e => by cases e; show 3 ≤ 1000; decide, fun a' o' g' e => by cases e; exact ⟨h1, h2, h3⟩⟩
theorem tickOther {d : D} (h : (tyA d).isSome = true) (hn : ∀ l, d ≠ .tup l) : TickAny d := ⟨h, fun l e => absurd e (hn l), fun a o g e => absurd e (hn _)⟩
theorem tick2A {a o : D} : TickAny (.tup [a, o]) := ⟨rfl, fun l e => by cases e; show 2 ≤ 1000; decide, fun a' o' g' e => by cases e⟩
theorem tickOkAny {b : Bk} {t : Tick} (h : TickOk b t) (hs : b.stations.length ≤ 20) (hl : b.links.length ≤ 60) : TickAny (tickD t) := by
  have ho := asc_len (lo := 0) h.asc fun x hx => ⟨Nat.zero_le _, h.o x hx⟩
  refine tick3A (rowInt (by rw [h.p]; omega)) ?_ (rowInt (by rw [h.g]; omega))
  rw [map_nI]
  exact rowInt (by rw [List.length_map]; omega)
theorem cut_sub {ds : List D} {lo hi : Option Int} {x : D} (h : x ∈ cutD ds lo hi) : x ∈ ds := List.mem_of_mem_drop (List.mem_of_mem_take h)
theorem cut_le {ds : List D} {lo hi : Option Int} : (cutD ds lo hi).length ≤ ds.length := by
  unfold cutD
  rw [List.length_take, List.length_drop]
  omega
section
variable {ρ : Rh} {K : PySem.W.Frag} {δ : Dl} {te ta tb : TE}
theorem ed_tupRg {n : Nat} (h : ED ρ K te δ (.int (n : Nat))) (hn : n ≤ 1000000) : ED ρ K (tTupRg (tRg1 te)) δ (.tup ((List.range n).map nI)) := .mk fun G0 H0 G H σ m Q w hm q =>
  h.run G0 H0 G H σ m _ w hm fun d v G1 H1 m1 px w1 g1 l1 ax => by
    subst px
    cases ax
    have e : rgV 0 (n : Nat) = ((List.range n).map fun (j : Nat) => (j : Int)).map V.int := by
      unfold rgV
      rw [List.map_map, show ((n : Int) - 0).toNat = n by omega]
      refine List.map_congr_left fun x _ => ?_
      simp
    have e2 : (List.range n).map nI = ((List.range n).map fun (j : Nat) => (j : Int)).map D.int := by
      rw [List.map_map]; rfl
    refine ⟨(n : Int), rfl, RgOk.of_le (by omega) (by omega) (by omega) (by omega), fun p hp => ?_⟩
    rw [e2] at q
    rw [e]
    have g3 := Gd.alloc (o := HO.tup (((List.range n).map fun (j : Nat) => (j : Int)).map V.int)) w1.gd.sub hp
    exact q _ (.ref p) _ _ m1 rfl (w1.step g3.weak (w1.pot.keep g3)) (Gd.trans w1.pot g1 g3.weak) l1 (.tup (.inl (.inl upd_same)) (atL_ints _))
theorem ed_listT {ds : List D} (h : ED ρ K te δ (.tup ds)) : ED ρ K (tCB (fun xs H Q => ∃ p ys, xs = [.ref p] ∧ (SqL K H p ys ∨ SqT K H p ys) ∧ ∀ l, H l = none → Q (.ref l) (upd H l (.lst ys))) (tCons te tNil)) δ (.lst ds) := EN.ej (en_listT (eda_cons h eda_nil))
theorem ea_mono {P1 P2 : List D → Prop} {tA : TA} {k : Nat} (h : EA ρ K tA δ k P1) (hp : ∀ ds, P1 ds → P2 ds) : EA ρ K tA δ k P2 := .mk fun G0 H0 G H σ m Q w hm q => h.run G0 H0 G H σ m Q w hm fun ds vs G' H' m' p => q ds vs G' H' m' (hp ds p)
theorem eaT_nil : EA ρ K tNil δ 0 (fun ds => ds.length ≤ 0 ∧ ∀ x ∈ ds, TickAny x) := ea_mono ea_nil fun ds e => by subst e; exact ⟨Nat.le_refl _, fun x hx => by cases hx⟩
theorem eaT_cons {tr : TA} {n : Nat} {d : D} (h : ED ρ K te δ d) (hd : TickAny d) (hr : EA ρ K tr δ 0 (fun ds => ds.length ≤ n ∧ ∀ x ∈ ds, TickAny x)) : EA ρ K (tCons te tr) δ 0 (fun ds => ds.length ≤ n + 1 ∧ ∀ x ∈ ds, TickAny x) :=
  ea_cons (k1 := 0) (k2 := 0) (P1 := (· = d)) h (fun _ _ => hr) fun a r e hh => by
    subst e
    refine ⟨by rw [List.length_cons]; omega, fun x hx => ?_⟩
    rcases List.mem_cons.mp hx with rfl | hx
    · exact hd
    · exact hh.2 x hx
theorem ed3 {tc : TE} {x y z : D} (h1 : ED ρ K te δ x) (h2 : ED ρ K ta δ y) (h3 : ED ρ K tc δ z) : ED ρ K (tTup (tCons te (tCons ta (tCons tc tNil)))) δ (.tup [x, y, z]) := ed_tup (eda_cons h1 (eda_cons h2 (eda_cons h3 eda_nil))) (by show 3 ≤ 1000000; decide)
theorem ed_bend {tx : TE} {x : D} {one two : List D} (h1 : ED ρ K ta δ (.tup one)) (hx : ED ρ K tx δ x) (h2 : ED ρ K tb δ (.tup two)) (l1 : one.length ≤ 100) (l2 : two.length ≤ 100) : ED ρ K (tOp (rCatA K) (tOp (rCatA K) ta (tTup (tCons tx tNil))) tb) δ (.tup ((one ++ [x]) ++ two)) :=
  ed_op (ed_op h1 (ed_tup (eda_cons hx eda_nil) (by show 1 ≤ 1000000; decide)) (rj_catA (by show one.length + 1 ≤ _; omega))) h2 (rj_catA (by rw [List.length_append]; show one.length + 1 + _ ≤ _; omega))
theorem row_bend {one two l : List D} {x : D} (h1 : ∀ y ∈ one, y ∈ l) (h2 : ∀ y ∈ two, y ∈ l) (l1 : one.length ≤ 100) (l2 : two.length ≤ 100) (hl : ∀ y ∈ l, (tyA y).isSome = true) (hx : (tyA x).isSome = true) : RowAny (.tup ((one ++ [x]) ++ two)) :=
  rowTup (by rw [List.length_append, List.length_append]; show one.length + 1 + _ ≤ _; omega) fun y hy => by
    rcases List.mem_append.mp hy with hy | hy
    · rcases List.mem_append.mp hy with hy | hy
      · exact hl y (h1 y hy)
      · rw [List.mem_singleton.mp hy]; exact hx
    · exact hl y (h2 y hy)
end
section
variable {P : Program} {w : World} {K : PySem.W.Frag} {mg : Str → Option Value} {base : Heap} {aH C : Addr}
abbrev spBent0 (K : PySem.W.Frag) (b : Bk) (t : Tick) : Sp := spJ K 3 (fun ρ ds => ∃ a, ds = [.opq (.ref a), bkD b, tickD t] ∧ ρ = .some a ∧ RdOk b ∧ TickOk b t) 2 (fun _ r => TickAny r)
def spBent (K : PySem.W.Frag) : Sp := fun vs H Q E => ∃ b t, spBent0 K b t vs H Q E
theorem ok_bent {f : Addr} {fd : FuncData} (F : Fun K "_law_bent_tick" "_law_bent_tick" s__law_bent_tick f fd) (T : Txv K mg) (c__law_take : C8.Cal P w K mg base 1 "_law_take" (spTake K) []) (c__law_of : C8.Cal P w K mg base 2 "_law_of" (spOf K) []) : FnOk P w K mg base CX0 3 f fd ["pot", "own", "tick"] (spBent K) := by
  refine F.ok sc__law_bent_tick (fun vs H Q E h => by obtain ⟨_, _, h⟩ := h; exact spJ_len h) (fun cdv A outer s H vs Q E hr h => ?_)
  obtain ⟨b, t, h⟩ := h
  refine ⟨_, (pss_cons (ps_if (pt_not (pt_val (pe_callB (cr_all (by rfl)) (by rfl) T.b_all (by decide +kernel) (pa_cons (pe_lc (own := [("one", 9)]) rfl sc__law_bent_tick.nd (pi_tup (pv 2)) (blkOk_by (N := ["pot", "own", "tick", "puts", "opens", "ages", "links", "late", "at", "one", "two", "some", "age"]) (sc := defScope s__law_bent_tick) (by decide +kernel)) (fun _ _ _ _ _ => (pg_name (i := 9) sc__law_bent_tick.nd rfl (by first | exact Or.inl rfl | exact Or.inr rfl))) (fun _ _ _ _ _ => pts_nil) (fun _ _ _ _ _ => (pe_callB (call_isiK K rfl) (by rfl) T.b_isinstance (by decide +kernel) (pa_cons (pv 9) (pa_cons (pe_bltn (v := .ty "tuple") (by rfl) T.b_tuple (by decide +kernel) rfl) pa_nil))))) pa_nil)))) (pss_one (ps_ret (pv 2))) pss_nil)
 (pss_cons (ps_asg (pv 2) (pg_tup rfl (pgs_cons (pg_name (i := 3) sc__law_bent_tick.nd rfl (by first | exact Or.inl rfl | exact Or.inr rfl)) (pgs_cons (pg_name (i := 4) sc__law_bent_tick.nd rfl (by first | exact Or.inl rfl | exact Or.inr rfl)) (pgs_cons (pg_name (i := 5) sc__law_bent_tick.nd rfl (by first | exact Or.inl rfl | exact Or.inr rfl)) pgs_nil)))))
 (pss_cons (ps_asg (pe_tup (pa_cons (pe_callB call_len_seq (by rfl) T.b_len (by decide +kernel) (pa_cons (pe_dget (hu_of hr) (pv 1) pe_str (fun _ _ => rfl)) pa_nil)) (pa_cons (pe_dget (hu_of hr) (pv 1) pe_str (fun _ _ => rfl)) pa_nil))) (pg_tup rfl (pgs_cons (pg_name (i := 6) sc__law_bent_tick.nd rfl (by first | exact Or.inl rfl | exact Or.inr rfl)) (pgs_cons (pg_name (i := 7) sc__law_bent_tick.nd rfl (by first | exact Or.inl rfl | exact Or.inr rfl)) pgs_nil))))
 (pss_cons (ps_set (i := 8) sc__law_bent_tick.nd rfl (by first | exact Or.inl rfl | exact Or.inr rfl) (C8.pe_c c__law_take hr (by omega) (by rfl) (pa_cons (pv 0) (pa_cons (pe_callB call_len_seq (by rfl) T.b_len (by decide +kernel) (pa_cons (pv 3) pa_nil)) pa_nil))))
 (pss_cons (ps_par (i := 9) (j := 10) (by rfl) sc__law_bent_tick.nd rfl rfl (by decide) rfl rfl (pa_cons (pe_slice sl_tupA (pv 3) po_none (po_some (pv 8))) (pa_cons (pe_slice sl_tupA (pv 3) (po_some (pe_op op_add (pv 8) pe_int)) po_none) pa_nil)) (by rfl))
 (pss_cons (ps_set (i := 11) sc__law_bent_tick.nd rfl (by first | exact Or.inl rfl | exact Or.inr rfl) (pe_lst (pa_cons (pe_tup (pa_cons (pe_op op_catA (pe_op op_catA (pv 9) (pe_tup (pa_cons (pe_op op_add (pe_ix ix_tup (pv 3) (pv 8) (fun _ _ => rfl)) pe_int) pa_nil))) (pv 10)) (pa_cons (pv 4) (pa_cons (pv 5) pa_nil)))) (pa_cons (pe_tup (pa_cons (pv 3) (pa_cons (pe_slice sl_tupA (pv 4) (po_some pe_int) po_none) (pa_cons (pv 5) pa_nil)))) (pa_cons (pe_tup (pa_cons (pv 3) (pa_cons (pe_tup pa_nil) (pa_cons (pv 5) pa_nil)))) pa_nil)))))
 (pss_cons (ps_expr (pe_bm PySem.F.plainAttrs_list PySem.F.slot_list_append PySem.F.type_list_append mt_append (pv 11) (pa_cons (pe_tup (pa_cons (pv 3) (pa_cons (pv 4) (pa_cons (pe_slice sl_tupA (pv 5) (po_some pe_int) po_none) pa_nil)))) pa_nil)))
 (pss_cons (ps_expr (pe_bm PySem.F.plainAttrs_list PySem.F.slot_list_extend PySem.F.type_list_extend mt_extend (pv 11) (pa_cons (pe_lst (pa_cons (pe_tup (pa_cons (pv 3) (pa_cons (pe_tupRg (by rfl) (by rfl) T.b_tuple (prg_1 (by rfl) T.b_range (pv 6))) (pa_cons (pv 5) pa_nil)))) (pa_cons (pe_tup (pa_cons (pe_op op_catA (pv 3) (pe_tup (pa_cons pe_int pa_nil))) (pa_cons (pv 4) (pa_cons (pv 5) pa_nil)))) (pa_cons (pe_tup (pa_cons (pv 3) (pa_cons (pe_op op_catA (pv 4) (pe_tup (pa_cons (pv 6) pa_nil))) (pa_cons (pv 5) pa_nil)))) pa_nil)))) pa_nil)))
 (pss_cons (ps_expr (pe_bm PySem.F.plainAttrs_list PySem.F.slot_list_extend PySem.F.type_list_extend mt_extend (pv 11) (pa_cons (pe_lst (pa_cons (pe_tup (pa_cons (pv 3) (pa_cons (pe_backT (pv 4)) (pa_cons (pv 5) pa_nil)))) (pa_cons (pe_tup (pa_cons (pv 3) (pa_cons (pv 4) (pa_cons (pe_callTy call_tuple_of (by rfl) T.b_tuple (by decide +kernel) (pa_cons (pe_lc (own := [("age", 12)]) rfl sc__law_bent_tick.nd (pi_tup (pv 5)) (blkOk_by (N := ["pot", "own", "tick", "puts", "opens", "ages", "links", "late", "at", "one", "two", "some", "age"]) (sc := defScope s__law_bent_tick) (by decide +kernel)) (fun _ _ _ _ _ => (pg_name (i := 12) sc__law_bent_tick.nd rfl (by first | exact Or.inl rfl | exact Or.inr rfl))) (fun _ _ _ _ _ => pts_nil) (fun _ _ _ _ _ => (pe_op op_add (pv 7) pe_int))) pa_nil)) pa_nil)))) (pa_cons (pe_tup (pa_cons (pv 3) (pa_cons (pe_tup (pa_cons pe_bl pa_nil)) (pa_cons (pv 5) pa_nil)))) pa_nil)))) pa_nil)))
 (pss_cons (ps_expr (pe_bm PySem.F.plainAttrs_list PySem.F.slot_list_extend PySem.F.type_list_extend mt_extend (pv 11) (pa_cons (pe_lst (pa_cons (pe_tup (pa_cons (pe_op op_catA (pe_op op_catA (pv 9) (pe_tup (pa_cons (pe_un un_neg pe_int) pa_nil))) (pv 10)) (pa_cons (pv 4) (pa_cons (pv 5) pa_nil)))) (pa_cons (pe_callTy call_list_of (by rfl) T.b_list (by decide +kernel) (pa_cons (pv 2) pa_nil)) (pa_cons pe_non (pa_cons (pe_tup (pa_cons (pv 3) (pa_cons (pv 4) pa_nil))) (pa_cons (pe_tup (pa_cons (pv 3) (pa_cons (pv 4) (pa_cons (pe_callTy call_list_of (by rfl) T.b_list (by decide +kernel) (pa_cons (pv 5) pa_nil)) pa_nil)))) (pa_cons pe_int pa_nil))))))) pa_nil)))
 (pss_cons (ps_expr (pe_bm PySem.F.plainAttrs_list PySem.F.slot_list_extend PySem.F.type_list_extend mt_extend (pv 11) (pa_cons (pe_lst (pa_cons (pe_tup (pa_cons (pe_op op_catA (pe_op op_catA (pv 9) (pe_tup (pa_cons (pe_op op_add (pe_op op_powW pe_int pe_int) pe_int) pa_nil))) (pv 10)) (pa_cons (pv 4) (pa_cons (pv 5) pa_nil)))) (pa_cons (pe_tup (pa_cons (pv 3) (pa_cons pe_non (pa_cons (pv 5) pa_nil)))) (pa_cons (pe_tup (pa_cons (pv 3) (pa_cons (pe_op op_catA (pv 4) (pe_slice sl_tupA (pv 4) (po_some (pe_un un_neg pe_int)) po_none)) (pa_cons (pv 5) pa_nil)))) pa_nil)))) pa_nil)))
 (pss_one (ps_ret (C8.pe_c c__law_of hr (by omega) (by rfl) (pa_cons (pv 0) (pa_cons (pe_op op_cat (pv 11) (pe_lst (pa_cons (pe_tup (pa_cons (pe_op op_catA (pe_op op_catA (pv 9) (pe_tup (pa_cons pe_bl pa_nil))) (pv 10)) (pa_cons (pv 4) (pa_cons (pv 5) pa_nil)))) pa_nil))) pa_nil)))))))))))))))), body_of (n := 3) (fun ρ ds hl hp => ?_) h⟩
  obtain ⟨a, rfl, rfl, ok, tok⟩ := hp
  try dsimp only [cxOf, Cx.nox, Cx.wish]
  obtain ⟨tp, to, ta⟩ := t
  have hns := ok.n2
  have hn1 := ok.n1
  have hnl := ok.nl
  have htp : tp.length = b.stations.length := tok.p
  have hta : ta.length = b.links.length := tok.g
  have hto : to.length ≤ b.links.length := by
    have := asc_len (lo := 0) tok.asc fun x hx => ⟨Nat.zero_le _, tok.o x hx⟩
    exact this
  let pd : List D := tp.map D.int
  let od : List D := to.map nI
  let gd : List D := ta.map D.int
  have pl : pd.length ≤ 20 := by show (tp.map D.int).length ≤ _; rw [List.length_map]; omega
  have ol : od.length ≤ 60 := by show (to.map nI).length ≤ _; rw [List.length_map]; omega
  have gl : gd.length ≤ 60 := by show (ta.map D.int).length ≤ _; rw [List.length_map]; omega
  have pt : ∀ x ∈ pd, (tyA x).isSome = true := fun x hx => by obtain ⟨y, _, rfl⟩ := List.mem_map.mp hx; rfl
  have ot : ∀ x ∈ od, (tyA x).isSome = true := fun x hx => by obtain ⟨y, _, rfl⟩ := List.mem_map.mp hx; rfl
  have gt : ∀ x ∈ gd, (tyA x).isSome = true := fun x hx => by obtain ⟨y, _, rfl⟩ := List.mem_map.mp hx; rfl
  have pR : RowAny (.tup pd) := rowTup (by omega) pt
  have oR : RowAny (.tup od) := rowTup (by omega) ot
  have gR : RowAny (.tup gd) := rowTup (by omega) gt
  have cutR : ∀ {l : List D} {lo hi : Option Int}, l.length ≤ 100 → (∀ x ∈ l, (tyA x).isSome = true) → RowAny (.tup (cutD l lo hi)) := fun {l lo hi} hl ht => rowTup (by have := cut_le (ds := l) (lo := lo) (hi := hi); omega) fun x hx => ht x (cut_sub hx)
  let e0 : Dl := initD 13 [.opq (.ref a), bkD b, .tup [.tup pd, .tup od, .tup gd]]
  let e1 : Dl := ((e0.set 3 (some (.val (.tup pd)))).set 4 (some (.val (.tup od)))).set 5 (some (.val (.tup gd)))
  let e2 : Dl := (e1.set 6 (some (.val (.int (b.links.length : Nat))))).set 7 (some (.val (.int b.late)))
  refine ⟨2, by decide, ?_⟩
  refine sj_le (k := 0 + (0 + 2)) ?_ (by decide)
  apply sj_ifs (k1 := 0) (k2 := 0) (k3 := 2) (PT := (· = false))
  · refine (eb_not (x := true) (eb_B (ed_cb (eda_cons (EN.ej (P := (· = .lst ([true, true, true].map D.bl))) ?_) eda_nil) (cj_all (bs := [true, true, true])))))
    refine (en_lcE (L := [9]) (ds := [.tup pd, .tup od, .tup gd]) (p := fun _ => true) (f := fun d => .bl (isTupD d)) (ij_tup (ed_var rfl)) (fun i h => h) (by show 3 ≤ 1000000; decide) (fun d _ => gj_name) (fun d _ => eb_yes) (fun d hd _ => ?_)).mono (Nat.le_refl _) fun r e => by rw [e, filt_true]; rfl
    have hty : (tyA d).isSome = true := by
      simp only [List.mem_cons, List.not_mem_nil, or_false] at hd
      rcases hd with rfl | rfl | rfl <;> rfl
    exact ed_isTup hty (ed_var rfl)
  · intro e; cases e
  intro _
  apply sj_nexts
  refine sj_le (k := 0 + 2) ?_ (by decide)
  refine sj_asg (k1 := 0) (k2 := 2) (L := [3, 4, 5]) (P := (· = .tup [.tup pd, .tup od, .tup gd])) (δ' := fun _ => e1) (ed_var rfl) ?_ ?_
  · rintro _ rfl
    exact gj_tup (gsj_cons gj_name (gsj_cons gj_name (gsj_cons gj_name gsj_nil))) rfl
  rintro _ rfl
  refine sj_le (k := 0 + 2) ?_ (by decide)
  refine sj_asg (k1 := 0) (k2 := 2) (L := [6, 7]) (P := (· = .tup [.int (b.links.length : Nat), .int b.late])) (δ' := fun _ => e2) (ed_tup (eda_cons ?_ (eda_cons (ed_dget (x := .inr "late") (ed_var rfl) ed_str (bk_late b)) eda_nil)) (by show 2 ≤ 1000000; decide)) ?_ ?_
  · have := ed_cb (ρ := .some a) (δ := e1) (eda_cons (ed_dget (x := .inr "links") (ed_var (i := 1) rfl) ed_str (bk_links b)) eda_nil) (cj_len (K := K))
    rw [List.length_map] at this
    exact this
  · rintro _ rfl
    exact gj_tup (gsj_cons gj_name (gsj_cons gj_name gsj_nil)) rfl
  rintro _ rfl
  refine sj_le (k := (0 + 1) + 1) ?_ (by decide)
  refine sj_set (k1 := 0 + 1) (k2 := 1) (P := fun d => ∃ r : Int, d = .int r ∧ 0 ≤ r ∧ r < (pd.length : Nat)) ?_ ?_
  · refine ej_take rfl (ed_var rfl) (ed_cb (eda_cons (ed_var rfl) eda_nil) (cj_lenT (ds := pd))) ?_ (by omega)
    show (0 : Int) < ((tp.map D.int).length : Nat)
    rw [List.length_map]; omega
  rintro _ ⟨r, rfl, r0, r1⟩
  obtain ⟨n, rfl⟩ : ∃ n : Nat, r = (n : Int) := ⟨r.toNat, by omega⟩
  have hn : n < pd.length := by omega
  let one : List D := cutD pd none (some (n : Int))
  let two : List D := cutD pd (some ((n : Int) + 1)) none
  have l1 : one.length ≤ 100 := by have := cut_le (ds := pd) (lo := none) (hi := some (n : Int)); show (cutD pd none (some (n : Int))).length ≤ 100; omega
  have l2 : two.length ≤ 100 := by have := cut_le (ds := pd) (lo := some ((n : Int) + 1)) (hi := none); show (cutD pd (some ((n : Int) + 1)) none).length ≤ 100; omega
  have m1 : ∀ y ∈ one, y ∈ pd := fun y hy => cut_sub hy
  have m2 : ∀ y ∈ two, y ∈ pd := fun y hy => cut_sub hy
  have bendR : ∀ {x : D}, (tyA x).isSome = true → RowAny (.tup ((one ++ [x]) ++ two)) := fun hx => row_bend m1 m2 l1 l2 pt hx
  refine sj_le (k := 0 + 1) ?_ (by decide)
  refine sj_par (k1 := 0) (k2 := 1) (PA := (· = [.tup one, .tup two])) (eda_cons (ed_slA (ed_var rfl) eo_none (eo_some (ed_var rfl))) (eda_cons (ed_slA (ed_var rfl) (eo_some (ed_op (ed_var rfl) ed_int rj_I0)) eo_none) eda_nil)) ?_
  rintro _ rfl
  refine ⟨_, _, rfl, ?_⟩
  let eI : List D → Dl := fun l => [some (.val (.opq (.ref a))), some (.val (bkD b)), some (.val (.tup [.tup pd, .tup od, .tup gd])), some (.val (.tup pd)), some (.val (.tup od)), some (.val (.tup gd)), some (.val (.int (b.links.length : Nat))), some (.val (.int b.late)), some (.val (.int (n : Nat))), some (.val (.tup one)), some (.val (.tup two)), some (.own (.lst l)), none]
  obtain ⟨x0, hx0⟩ : ∃ x0 : Int, pd[n]? = some (.int x0) := ⟨tp[n]'(by have : (tp.map D.int).length = tp.length := List.length_map ..; have h2 : pd.length = tp.length := this; omega), by
    show (tp.map D.int)[n]? = _
    rw [List.getElem?_map, List.getElem?_eq_getElem]
    rfl⟩
  show SJ (.some a) K E _ [some (.val (.opq (.ref a))), some (.val (bkD b)), some (.val (.tup [.tup pd, .tup od, .tup gd])), some (.val (.tup pd)), some (.val (.tup od)), some (.val (.tup gd)), some (.val (.int (b.links.length : Nat))), some (.val (.int b.late)), some (.val (.int (n : Nat))), some (.val (.tup one)), some (.val (.tup two)), none, none] _ _
  refine sj_le (k := 0 + 1) ?_ (by decide)
  refine sj_new (k1 := 0) (k2 := 1) (P := fun d => ∃ l, d = .lst l ∧ l.length ≤ 3 ∧ ∀ x ∈ l, TickAny x) (en_lst (PA := fun ds => ds.length ≤ 0 + 1 + 1 + 1 ∧ ∀ x ∈ ds, TickAny x) ?_ (fun ds h => by omega) (fun ds h => ⟨ds, rfl, h⟩)) ?_
  · exact eaT_cons (ed3 (ed_bend (ed_var rfl) (ed_op (ed_op (ed_var rfl) (ed_var rfl) (rj_ixT (atI_nat hx0))) ed_int rj_I0) (ed_var rfl) l1 l2) (ed_var rfl) (ed_var rfl)) (tick3A (bendR rfl) oR gR)
      (eaT_cons (ed3 (ed_var rfl) (ed_slA (ed_var rfl) (eo_some ed_int) eo_none) (ed_var rfl)) (tick3A pR (cutR (by omega) ot) gR)
      (eaT_cons (ed3 (ed_var rfl) (ed_tup eda_nil (by show 0 ≤ 1000000; decide)) (ed_var rfl)) (tick3A pR (rowTup (by show 0 ≤ 1000; decide) (fun x hx => by cases hx)) gR) eaT_nil))
  rintro _ ⟨q1, rfl, hq1, hq1a⟩
  show SJ (.some a) K E _ (eI q1) _ _
  refine sj_le (k := 0 + 1) ?_ (by decide)
  refine sj_app (i := 11) (k1 := 0) (k := 1) (ds := q1) (P := fun d => TickAny d) rfl (ej_ex (ed3 (ed_var rfl) (ed_var rfl) (ed_slA (ed_var rfl) (eo_some ed_int) eo_none)) (tick3A pR oR (cutR (by omega) gt))) (by omega) ?_
  intro d1 hd1
  have hq2a : ∀ x ∈ q1 ++ [d1], TickAny x := fun x hx => by
    rcases List.mem_append.mp hx with hx | hx
    · exact hq1a x hx
    · rw [List.mem_singleton.mp hx]; exact hd1
  have hq2 : (q1 ++ [d1]).length ≤ 4 := by rw [List.length_append]; show q1.length + 1 ≤ 4; omega
  show SJ (.some a) K E _ (eI (q1 ++ [d1])) _ _
  generalize q1 ++ [d1] = q2 at hq2 hq2a ⊢
  have app : ∀ {q es : List D}, (∀ x ∈ q, TickAny x) → (∀ x ∈ es, TickAny x) → ∀ x ∈ q ++ es, TickAny x := fun h1 h2 x hx => (List.mem_append.mp hx).elim (h1 x) (h2 x)
  refine sj_le (k := 0 + 1) ?_ (by decide)
  refine sj_extP (i := 11) (k1 := 0) (k := 1) (ds := q2) (PE := fun ds => ds.length ≤ 0 + 1 + 1 + 1 ∧ ∀ x ∈ ds, TickAny x) rfl (ej_lst (PA := fun ds => ds.length ≤ 0 + 1 + 1 + 1 ∧ ∀ x ∈ ds, TickAny x) ?_ (fun ds h => by omega) (fun ds h => ⟨ds, rfl, h⟩)) (fun es h => by omega) ?_
  · exact eaT_cons (ed3 (ed_var rfl) (ed_tupRg (ed_var rfl) (by omega)) (ed_var rfl)) (tick3A pR (rowTup (by rw [List.length_map, List.length_range]; omega) (fun x hx => by obtain ⟨y, _, rfl⟩ := List.mem_map.mp hx; rfl)) gR)
      (eaT_cons (ed3 (ed_op (ed_var rfl) (ed_tup (eda_cons ed_int eda_nil) (by show 1 ≤ 1000000; decide)) (rj_catA (by show pd.length + 1 ≤ _; omega))) (ed_var rfl) (ed_var rfl)) (tick3A (rowTup (by rw [List.length_append]; show pd.length + 1 ≤ _; omega) (fun x hx => by
        rcases List.mem_append.mp hx with hx | hx
        · exact pt x hx
        · rw [List.mem_singleton.mp hx]; rfl)) oR gR)
      (eaT_cons (ed3 (ed_var rfl) (ed_op (ed_var rfl) (ed_tup (eda_cons (ed_var rfl) eda_nil) (by show 1 ≤ 1000000; decide)) (rj_catA (by show od.length + 1 ≤ _; omega))) (ed_var rfl)) (tick3A pR (rowTup (by rw [List.length_append]; show od.length + 1 ≤ _; omega) (fun x hx => by
        rcases List.mem_append.mp hx with hx | hx
        · exact ot x hx
        · rw [List.mem_singleton.mp hx]; rfl)) gR) eaT_nil))
  rintro es ⟨he, hea⟩
  have hq3a := app hq2a hea
  have hq3 : (q2 ++ es).length ≤ 7 := by rw [List.length_append]; omega
  show SJ (.some a) K E _ (eI (q2 ++ es)) _ _
  generalize q2 ++ es = q3 at hq3 hq3a ⊢
  refine sj_le (k := 0 + 1) ?_ (by decide)
  refine sj_extP (i := 11) (k1 := 0) (k := 1) (ds := q3) (PE := fun ds => ds.length ≤ 0 + 1 + 1 + 1 ∧ ∀ x ∈ ds, TickAny x) rfl (ej_lst (PA := fun ds => ds.length ≤ 0 + 1 + 1 + 1 ∧ ∀ x ∈ ds, TickAny x) ?_ (fun ds h => by omega) (fun ds h => ⟨ds, rfl, h⟩)) (fun es h => by omega) ?_
  · refine eaT_cons (ed3 (ed_var rfl) (ed_backT (ed_var rfl)) (ed_var rfl)) (tick3A pR (rowTup (by rw [List.length_reverse]; omega) (fun x hx => ot x (List.mem_reverse.mp hx))) gR)
      (eaT_cons (d := .tup [.tup pd, .tup od, .tup (gd.map fun _ => .int (b.late + 1))]) (ed3 (ed_var rfl) (ed_var rfl) (ed_cb (eda_cons (EN.ej (P := (· = .lst (gd.map fun _ => .int (b.late + 1)))) ?_) eda_nil) cj_tupL)) (tick3A pR oR (rowTup (by rw [List.length_map]; omega) (fun x hx => by obtain ⟨y, _, rfl⟩ := List.mem_map.mp hx; rfl)))
      (eaT_cons (ed3 (ed_var rfl) (ed_tup (eda_cons ed_bl eda_nil) (by show 1 ≤ 1000000; decide)) (ed_var rfl)) (tick3A pR (rowTup (by show 1 ≤ 1000; decide) (fun x hx => by rw [List.mem_singleton.mp hx]; rfl)) gR) eaT_nil))
    refine (en_lcE (L := [12]) (ds := gd) (p := fun _ => true) (f := fun _ => .int (b.late + 1)) (ij_tup (ed_var rfl)) (fun i h => h) (by omega) (fun d _ => gj_name) (fun d _ => eb_yes) (fun d hd _ => ed_op (ed_var rfl) ed_int rj_I0)).mono (Nat.le_refl _) fun r e => by rw [e, filt_true]
  rintro es2 ⟨he2, hea2⟩
  have hq4a := app hq3a hea2
  have hq4 : (q3 ++ es2).length ≤ 10 := by rw [List.length_append]; omega
  show SJ (.some a) K E _ (eI (q3 ++ es2)) _ _
  generalize q3 ++ es2 = q4 at hq4 hq4a ⊢
  refine sj_le (k := 0 + 1) ?_ (by decide)
  refine sj_extP (i := 11) (k1 := 0) (k := 1) (ds := q4) (PE := fun ds => ds.length ≤ 0 + 1 + 1 + 1 + 1 + 1 + 1 ∧ ∀ x ∈ ds, TickAny x) rfl (ej_lst (PA := fun ds => ds.length ≤ 0 + 1 + 1 + 1 + 1 + 1 + 1 ∧ ∀ x ∈ ds, TickAny x) ?_ (fun ds h => by omega) (fun ds h => ⟨ds, rfl, h⟩)) (fun es h => by omega) ?_
  · exact eaT_cons (ed3 (ed_bend (ed_var rfl) (ed_un ed_int uj_neg) (ed_var rfl) l1 l2) (ed_var rfl) (ed_var rfl)) (tick3A (bendR rfl) oR gR)
      (eaT_cons (ed_listT (ed_var rfl)) (tickOther rfl (fun l e => nomatch e))
      (eaT_cons ed_non (tickOther rfl (fun l e => nomatch e))
      (eaT_cons (ed_tup (eda_cons (ed_var rfl) (eda_cons (ed_var rfl) eda_nil)) (by show 2 ≤ 1000000; decide)) tick2A
      (eaT_cons (ed3 (ed_var rfl) (ed_var rfl) (ed_listT (ed_var rfl))) (tick3A pR oR rowLst)
      (eaT_cons ed_int (tickOther rfl (fun l e => nomatch e)) eaT_nil)))))
  rintro es3 ⟨he3, hea3⟩
  have hq5a := app hq4a hea3
  have hq5 : (q4 ++ es3).length ≤ 16 := by rw [List.length_append]; omega
  show SJ (.some a) K E _ (eI (q4 ++ es3)) _ _
  generalize q4 ++ es3 = q5 at hq5 hq5a ⊢
  have pw : ∀ {δ : Dl}, ED (.some a) K (tOp (rI0 fun i j => V.int (i + j)) (tOp (rI CPowW fun i j => V.int (i ^ j.toNat)) (tC (V.int 10)) (tC (V.int 6))) (tC (V.int 1))) δ (.int (1000000 + 1)) := fun {δ} => by
    have h0 := ed_op (ρ := .some a) (K := K) (δ := δ) (ed_int (i := 10)) (ed_int (i := 6)) (rj_I (f := fun i j => i ^ j.toNat) (C := CPowW) ⟨by decide, by decide +kernel⟩)
    rw [show (10 : Int) ^ (6 : Int).toNat = 1000000 by decide] at h0
    exact ed_op h0 ed_int rj_I0
  refine sj_le (k := 0 + 1) ?_ (by decide)
  refine sj_extP (i := 11) (k1 := 0) (k := 1) (ds := q5) (PE := fun ds => ds.length ≤ 0 + 1 + 1 + 1 ∧ ∀ x ∈ ds, TickAny x) rfl (ej_lst (PA := fun ds => ds.length ≤ 0 + 1 + 1 + 1 ∧ ∀ x ∈ ds, TickAny x) ?_ (fun ds h => by omega) (fun ds h => ⟨ds, rfl, h⟩)) (fun es h => by omega) ?_
  · exact eaT_cons (ed3 (ed_bend (x := .int (1000000 + 1)) (ed_var rfl) pw (ed_var rfl) l1 l2) (ed_var rfl) (ed_var rfl)) (tick3A (bendR rfl) oR gR)
      (eaT_cons (ed3 (ed_var rfl) ed_non (ed_var rfl)) (tick3A pR rowNon gR)
      (eaT_cons (ed3 (ed_var rfl) (ed_op (ed_var rfl) (ed_slA (ed_var rfl) (eo_some (ed_un ed_int uj_neg)) eo_none) (rj_catA (by have := cut_le (ds := od) (lo := some (-1)) (hi := none); omega))) (ed_var rfl)) (tick3A pR (rowTup (by have := cut_le (ds := od) (lo := some (-1)) (hi := none); rw [List.length_append]; omega) (fun x hx => by
        rcases List.mem_append.mp hx with hx | hx
        · exact ot x hx
        · exact ot x (cut_sub hx))) gR) eaT_nil))
  rintro es4 ⟨he4, hea4⟩
  have hq6a := app hq5a hea4
  have hq6 : (q5 ++ es4).length ≤ 19 := by rw [List.length_append]; omega
  show SJ (.some a) K E _ (eI (q5 ++ es4)) _ _
  generalize q5 ++ es4 = q6 at hq6 hq6a ⊢
  apply sj_frz 11 rfl
  refine sj_le (k := 0 + 1) ?_ (by decide)
  have hlast : TickAny (.tup [.tup ((one ++ [.bl true]) ++ two), .tup od, .tup gd]) := tick3A (bendR rfl) oR gR
  refine sj_retP (k := 0 + 1) (P := fun d => TickAny d) ((ej_ofL (l := q6 ++ [.tup [.tup ((one ++ [.bl true]) ++ two), .tup od, .tup gd]]) rfl (ed_var rfl) (EN.ej (en_catE (ed_var rfl) (ed_lst (eda_cons (ed3 (ed_bend (ed_var rfl) ed_bl (ed_var rfl) l1 l2) (ed_var rfl) (ed_var rfl)) eda_nil) (by show 1 ≤ 1000000; decide)) (by show q6.length + 1 ≤ _; omega))) (by rw [List.length_append]; show 0 < q6.length + 1; omega) (by rw [List.length_append]; show q6.length + 1 < _; omega)).mono (Nat.le_refl _) fun d hd => ?_) ?_
  · rcases List.mem_append.mp hd with hd | hd
    · exact hq6a d hd
    · rw [List.mem_singleton.mp hd]; exact hlast
  · exact fun d hd => .inl ⟨d, rfl, hd⟩
end
end DN

/-! a drawn weather has no bad tick -/
namespace DN
open PySem PySem.Spec PyProof.Rows L2
variable [Tb]
theorem sum_nonneg : ∀ {xs : List Int}, (∀ x ∈ xs, 0 ≤ x) → 0 ≤ xs.sum
  | [], _ => Int.le_refl _
  | x :: r, h => by
    have h1 := h x List.mem_cons_self
    have h2 := sum_nonneg fun y hy => h y (List.mem_cons_of_mem _ hy)
    rw [List.sum_cons]; omega
theorem sum_take_le {xs : List Int} (h : ∀ x ∈ xs, 0 ≤ x) (m : Nat) : (xs.take m).sum ≤ xs.sum := by
  have e : xs.sum = (xs.take m).sum + (xs.drop m).sum := by rw [← List.sum_append, List.take_append_drop]
  have := sum_nonneg (xs := xs.drop m) fun x hx => h x (List.mem_of_mem_drop hx)
  omega
theorem mem_le_sum {xs : List Int} (h : ∀ x ∈ xs, 0 ≤ x) {x : Int} (hx : x ∈ xs) : x ≤ xs.sum := by
  obtain ⟨i, hi⟩ := List.getElem?_of_mem hx
  have h1 := sum_take_le h (i + 1)
  rw [take_snoc hi, List.sum_append] at h1
  have h2 := sum_nonneg (xs := xs.take i) fun y hy => h y (List.mem_of_mem_take hy)
  have e : [x].sum = x := by simp
  rw [e] at h1
  omega
theorem take_getD {xs : List Int} {m : Nat} (h : m ≤ xs.length) : (List.range m).map (fun j => xs.getD j 0) = xs.take m := by
  apply List.ext_getElem?
  intro i
  rw [List.getElem?_map, List.getElem?_take]
  by_cases hi : i < m
  · rw [if_pos hi, List.getElem?_range hi, List.getElem?_eq_getElem (by omega)]
    show some (xs.getD i 0) = _
    rw [List.getD_eq_getElem?_getD, List.getElem?_eq_getElem (by omega)]
    rfl
  · rw [if_neg hi, List.getElem?_eq_none (by rw [List.length_range]; omega)]
    rfl
theorem getD_colR {rp : List (List Int)} {i j : Nat} (h : i < rp.length) : (colR rp j).getD i 0 = (rp.getD i []).getD j 0 := by
  unfold colR
  rw [List.getD_eq_getElem?_getD, List.getElem?_map, List.getElem?_eq_getElem h, List.getD_eq_getElem?_getD (l := rp), List.getElem?_eq_getElem h]
  rfl
theorem mem_opnR {ro : List (List Nat)} {k j : Nat} : k ∈ opnR ro j ↔ k < ro.length ∧ j ∈ ro.getD k [] := by
  unfold opnR
  rw [List.mem_filter, List.mem_range, decide_eq_true_eq]
/-- how many numbers below n are in a list of unlike ones below n -/
theorem count_in {n : Nat} {xs : List Nat} (nd : xs.Nodup) (lt : ∀ x ∈ xs, x < n) : ((List.range n).filter fun j => decide (j ∈ xs)).length = xs.length := by
  have h : ((List.range n).filter fun j => decide (j ∈ xs)).Perm xs := by
    rw [List.perm_ext_iff_of_nodup (List.Nodup.sublist List.filter_sublist List.nodup_range) nd]
    intro x
    rw [List.mem_filter, List.mem_range, decide_eq_true_eq]
    exact ⟨fun z => z.2, fun z => ⟨lt x z, z⟩⟩
  exact h.length_eq
theorem count_take {n m : Nat} (h : m ≤ n) {p : Nat → Bool} : ((List.range n).filter p).length ≤ ((List.range m).filter p).length + (n - m) := by
  have e : List.range n = List.range m ++ (List.range (n - m)).map (m + ·) := by
    have := List.range_add (n := m) (m := n - m)
    rw [show m + (n - m) = n by omega] at this
    exact this
  rw [e, List.filter_append, List.length_append]
  have : (((List.range (n - m)).map (m + ·)).filter p).length ≤ n - m := by
    refine Nat.le_trans (List.length_filter_le _ _) ?_
    rw [List.length_map, List.length_range]
    exact Nat.le_refl _
  omega
section
variable {b : Bk} {ws : List Tick}
theorem WinR.tick {rp : List (List Int)} {ro : List (List Nat)} (h : WinR b rp ro ws) (ok : RdOk b) {j : Nat} {t : Tick} (ht : ws[j]? = some t) : TickOk b t := by
  obtain ⟨e1, e2, ag⟩ := h.at_ j t ht
  have hj := (List.getElem?_eq_some_iff.mp ht).1
  rw [h.len] at hj
  have hrl : rp.length = b.stations.length := h.p.len.symm
  have hol : ro.length = b.links.length := h.o.len.symm
  refine ⟨by rw [e1]; unfold colR; rw [List.length_map]; exact hrl, fun x hx => ?_, fun k hk => ?_, ?_, ag.len, ag.ok⟩
  · rw [e1] at hx
    unfold colR at hx
    obtain ⟨r, hr, rfl⟩ := List.mem_map.mp hx
    obtain ⟨i, hi⟩ := List.getElem?_of_mem hr
    obtain ⟨s, hs, pr⟩ := all2_get h.p hi
    have hp := ok.pt s (List.mem_of_getElem? hs)
    have hlt : j < r.length := by rw [pr.len]; exact hj
    have em : r.getD j 0 = r[j] := by rw [List.getD_eq_getElem?_getD, List.getElem?_eq_getElem hlt]; rfl
    rw [em]
    have hm := List.getElem_mem hlt
    have := mem_le_sum pr.nn hm
    have := pr.nn _ hm
    have := pr.sum
    omega
  · rw [e2, mem_opnR, hol] at hk
    exact hk.1
  · rw [e2]
    unfold opnR
    exact List.Pairwise.sublist List.filter_sublist List.pairwise_lt_range
theorem WinR.good {rp : List (List Int)} {ro : List (List Nat)} (h : WinR b rp ro ws) (ok : RdOk b) {m : Nat} (hm : m ≤ wN b) : goodL (leftW b (ws.take m)) = true := by
  have hw := ok.w
  have hwn : b.window = (wN b : Nat) := by unfold wN; omega
  have hlen : ws.length = wN b := h.len
  have hrl : rp.length = b.stations.length := h.p.len.symm
  have hol : ro.length = b.links.length := h.o.len.symm
  have hml : (ws.take m).length = m := by rw [List.length_take]; omega
  have mapAt : ∀ {β : Type} (f : Tick → β) (g : Nat → β), (∀ j t, ws[j]? = some t → f t = g j) → (ws.take m).map f = (List.range m).map g := fun f g hfg => by
    apply List.ext_getElem?
    intro i
    rw [List.getElem?_map, List.getElem?_map, List.getElem?_take]
    by_cases hi : i < m
    · rw [if_pos hi, List.getElem?_range hi, List.getElem?_eq_getElem (by omega)]
      show some (f ws[i]) = some (g i)
      rw [hfg i _ (List.getElem?_eq_getElem (by omega))]
    · rw [if_neg hi, List.getElem?_eq_none (l := List.range m) (by rw [List.length_range]; omega)]
      rfl
  refine (good_iff fun t ht => ?_).mpr ⟨fun i hi => ?_, fun k hk => ?_⟩
  · obtain ⟨j, hj⟩ := List.getElem?_of_mem (List.mem_of_mem_take ht)
    exact h.tick ok hj
  · unfold okPu
    cases hs : b.stations[i]? with
    | none => rfl
    | some s =>
      show decide (putsAt (ws.take m) i ≤ s.2.2) = true
      rw [decide_eq_true_eq]
      have hri : rp[i]? = some rp[i] := List.getElem?_eq_getElem (by omega)
      obtain ⟨s', hs', pr⟩ := all2_get h.p hri
      rw [hs] at hs'
      cases hs'
      have e : putsAt (ws.take m) i = (rp[i].take m).sum := by
        unfold putsAt
        rw [mapAt _ (fun j => rp[i].getD j 0) fun j t ht => by
          rw [(h.at_ j t ht).1, getD_colR (by omega), List.getD_eq_getElem?_getD (l := rp), hri]
          rfl, take_getD (by rw [pr.len]; exact hm)]
      rw [e]
      have := sum_take_le pr.nn m
      have := pr.sum
      omega
  · unfold okOp
    cases hs : b.links[k]? with
    | none => rfl
    | some l =>
      show decide (l.2.2.2 ≤ (opensAt (ws.take m) k : Nat) + (b.window - ((ws.take m).length : Nat))) = true
      rw [decide_eq_true_eq, hml, hwn]
      have hrk : ro[k]? = some ro[k] := List.getElem?_eq_getElem (by omega)
      obtain ⟨l', hl', op⟩ := all2_get h.o hrk
      rw [hs] at hl'
      cases hl'
      have e : opensAt (ws.take m) k = ((List.range m).filter fun j => decide (j ∈ ro[k])).length := by
        have h1 : opensAt (ws.take m) k = (((ws.take m).map fun t => decide (k ∈ t.2.1)).filter id).length := by
          unfold opensAt
          rw [List.filter_map, List.length_map]
          rfl
        rw [h1, mapAt _ (fun j => decide (j ∈ ro[k])) fun j t ht => by
          rw [(h.at_ j t ht).2.1, Bool.eq_iff_iff, decide_eq_true_eq, decide_eq_true_eq, mem_opnR, List.getD_eq_getElem?_getD, hrk]
          show k < ro.length ∧ j ∈ ro[k] ↔ _
          exact ⟨fun z => z.2, fun z => ⟨by omega, z⟩⟩, List.filter_map, List.length_map]
        rfl
      have c := count_in op.nd op.lt
      have c2 := count_take (n := b.window.toNat) (m := m) hm (p := fun j => decide (j ∈ ro[k]))
      rw [c] at c2
      have := op.many
      have hwt : b.window.toNat = wN b := rfl
      have ht := ok.links.times l (List.mem_of_getElem? hs)
      rw [e]
      omega
theorem flat_drop {n : Nat} : ∀ {wss : List (List Tick)} {q : Nat}, (∀ ws ∈ wss, ws.length = n) → wss.flatten.drop (q * n) = (wss.drop q).flatten
  | [], q, _ => by simp
  | _ :: _, 0, _ => by simp
  | ws :: r, q + 1, h => by
    have h1 := h ws List.mem_cons_self
    have ih := flat_drop (q := q) fun w hw => h w (List.mem_cons_of_mem _ hw)
    rw [List.flatten_cons, List.drop_succ_cons, ← ih, Nat.succ_mul, Nat.add_comm, ← List.drop_drop]
    congr 1
    rw [← h1, List.drop_left']
    rfl
theorem flat_len {n : Nat} : ∀ {wss : List (List Tick)}, (∀ ws ∈ wss, ws.length = n) → wss.flatten.length = wss.length * n
  | [], _ => by simp
  | ws :: r, h => by
    rw [List.flatten_cons, List.length_append, flat_len fun w hw => h w (List.mem_cons_of_mem _ hw), h ws List.mem_cons_self, List.length_cons, Nat.succ_mul]
    omega
theorem wth_no {wss : List (List Tick)} (ok : RdOk b) (h : ∀ ws ∈ wss, WinOk b ws) {c : Nat} (hc : c ≤ wss.flatten.length) : firstB b ((wss.flatten.take c).map tickD) = .non := by
  have hw := ok.w
  have hw1 : 1 ≤ wN b := by unfold wN; omega
  have hl : ∀ ws ∈ wss, ws.length = wN b := fun ws hws => by
    obtain ⟨rp, ro, z⟩ := h ws hws
    exact z.len
  refine first_none fun i hi => ?_
  rw [List.length_map, List.length_take] at hi
  have hic : i < c := by omega
  have a2 := Nat.div_add_mod i (wN b)
  have hmod := Nat.mod_lt i hw1
  rw [Nat.mul_comm] at a2
  have hq : i / wN b < wss.length := by
    have := flat_len hl
    have h2 : i < wss.length * wN b := by omega
    exact Nat.div_lt_of_lt_mul (by rw [Nat.mul_comm]; exact h2)
  have hws := List.getElem_mem hq
  obtain ⟨rp, ro, z⟩ := h _ hws
  have e1 : wss.flatten.drop (i / wN b * wN b) = wss[i / wN b] ++ (wss.drop (i / wN b + 1)).flatten := by
    rw [flat_drop hl, List.drop_eq_getElem_cons hq, List.flatten_cons]
  have hti : wss.flatten[i]? = (wss[i / wN b])[i % wN b]? := by
    have : (wss.flatten.drop (i / wN b * wN b))[i % wN b]? = wss.flatten[i]? := by
      rw [List.getElem?_drop, a2]
    rw [← this, e1, List.getElem?_append_left (by rw [hl _ hws]; exact hmod)]
  obtain ⟨t, ht⟩ : ∃ t, (wss[i / wN b])[i % wN b]? = some t := ⟨_, List.getElem?_eq_getElem (by rw [hl _ hws]; exact hmod)⟩
  have htok := z.tick ok ht
  have hd : ((wss.flatten.take c).map tickD)[i]? = some (tickD t) := by
    rw [List.getElem?_map, List.getElem?_take, if_pos hic, hti, ht]
    rfl
  have hwin : winAt b ((wss.flatten.take c).map tickD) i = (wss[i / wN b]).take (i % wN b + 1) := by
    unfold winAt
    rw [← List.map_drop, ← List.map_take, List.map_map]
    have : (tk ∘ tickD) = id := by funext t; exact tk_tick t
    rw [this, List.map_id, List.drop_take, List.take_take, Nat.min_eq_left (by omega), e1, List.take_append_of_le_length (by rw [hl _ hws]; omega)]
  unfold badAt
  rw [List.getD_eq_getElem?_getD, hd, hwin]
  show (!tickB b (tickD t) || _) = false
  rw [tick_is htok, z.good ok (by omega)]
  rfl
theorem wth_ticks {wss : List (List Tick)} (ok : RdOk b) (h : ∀ ws ∈ wss, WinOk b ws) : ∀ t ∈ wss.flatten, TickOk b t := fun t ht => by
  obtain ⟨ws, hws, htw⟩ := List.mem_flatten.mp ht
  obtain ⟨rp, ro, z⟩ := h ws hws
  obtain ⟨j, hj⟩ := List.getElem?_of_mem htw
  exact z.tick ok hj
end
end DN

/-! windows of a weather, the other way round -/
namespace DN
open PySem PySem.Spec PyProof.Rows L2
variable [Tb]
abbrev s__law_right : Stmt := topS 64
theorem sc__law_right : FnScope ["pot", "lap", "own", "book", "ticks", "cut", "turn", "at", "tick", "value"] ["pot"] (defScope s__law_right) := ⟨rfl, rfl, rfl, by decide +kernel, rfl, by decide +kernel, by decide +kernel⟩
abbrev s_law : Stmt := topS 65
theorem sc_law : FnScope ["script", "place"] ["script"] (defScope s_law) := ⟨rfl, rfl, rfl, by decide +kernel, rfl, by decide +kernel, by decide +kernel⟩
/-- a def called by keywords alone -/
structure KwC (P : Program) (w : World) (K : PySem.W.Frag) (mg : Str → Option Value) (base : Heap) (k : Nat) (x : Str) (ps ks : List Str) (sp : Sp) (g : List Value → List Value → List Value) (gV : List V → List V → List V) : Prop where
  ex : ∃ (f : Addr) (fd : FuncData), FnOk P w K mg base CX0 k f fd ps sp ∧ mg x = some (.ref f) ∧ PySem.W.keepIn K (.ref f) = true ∧ KBinds K fd ps ks g gV
theorem pe_kw {X : Cx} {k j : Nat} {x : Str} {ps ks : List Str} {sp : Sp} {g : List Value → List Value → List Value} {gV : List V → List V → List V} {kws : List Keyword} {tk : TA} {p pos : Pos} (c : KwC X.prog X.w X.K X.mg X.base k x ps ks sp g gV) (room : Room j X.A) (hk : k ≤ j) (hg : Gl X x) (hkw : PK X kws tk)
    (hall : (backToKw pos (keywordEach kws X.env)).all (·.1.isSome) = true := by rfl) (hks : (backToKw pos (keywordEach kws X.env)).filterMap (·.1) = ks := by rfl) (hdb : (x == ("__debug__" : Str)) = false := by decide)
    (hpl : ((backTo pos (starEach [] X.env)).any (·.1) || (backToKw pos (keywordEach kws X.env)).any (·.1.isNone)) = false := by rfl) :
    PE X (.Call (.Name x p) [] kws pos) (fun σ H Q => tk σ H fun zs H1 => sp (gV [] zs) H1 Q C8.E0) := by
  obtain ⟨f, fd, F, hm, kp, kb⟩ := c.ex
  exact pe_callSK0 (E := fun _ => C8.E0) F (room.mono hk) hg hm kp kb (fun _ => passAt0) hkw hall hks hdb hpl
theorem piled_le {B : Nat} : ∀ {ts : List Str}, (∀ t ∈ ts, t.length ≤ B) → (ts.map fun t => t.length + 2).sum ≤ (B + 2) * ts.length
  | [], _ => Nat.zero_le _
  | t :: r, h => by
    have h1 := h t (List.mem_cons_self ..)
    have h2 := piled_le (ts := r) fun x hx => h x (List.mem_cons_of_mem _ hx)
    rw [List.map_cons, List.sum_cons, List.length_cons, Nat.mul_add]
    omega
theorem tupleText_le {B : Nat} {ts : List Str} (h : ∀ t ∈ ts, t.length ≤ B) : (PySem.tupleText ts).length ≤ (B + 2) * ts.length + 4 := by
  have hp := piled_le h
  have hj : (PySem.Str.join ", " ts).length ≤ (ts.map fun t => t.length + 2).sum := by
    cases ts with
    | nil => exact Nat.le_refl _
    | cons x r =>
      have := PySem.join_length_add (x :: r) (by simp)
      have e : PySem.piled (x :: r) = ((x :: r).map fun t => t.length + 2).sum := rfl
      omega
  unfold PySem.tupleText
  rw [str_lenA, str_lenA]
  have h1 : ("(" : Str).length = 1 := rfl
  have h2 : (if (ts.length == 1) = true then (",)" : Str) else (")" : Str)).length ≤ 2 := by
    split
    · show 2 ≤ 2; decide
    · show 1 ≤ 2; decide
  have h3 : ((if (ts.length == 1) = true then ",)" else ")" : String) : Str).length ≤ 2 := by
    split
    · show 2 ≤ 2; decide
    · show 1 ≤ 2; decide
  omega
/-- small numbers -/
def NumS (d : D) : Prop := ∃ n : Int, d = .int n ∧ 0 ≤ n ∧ n < 10 ^ 15
theorem nums_show : ∀ {ds : List D}, (∀ d ∈ ds, NumS d) → plainL ds = true ∧ PyData.showableAll (pyL ds) = true ∧ PyData.hasDictAll (pyL ds) = false ∧ PyData.depthAll (pyL ds) ≤ 0 ∧ (∀ t ∈ PyData.shownAll (pyL ds), t.length ≤ 15) ∧ (PyData.shownAll (pyL ds)).length = ds.length
  | [], _ => ⟨rfl, rfl, rfl, Nat.le_refl _, (fun _ h => nomatch h), rfl⟩
  | d :: r, h => by
    obtain ⟨n, rfl, h0, h1⟩ := h d (List.mem_cons_self ..)
    obtain ⟨i1, i2, i3, i4, i5, i6⟩ := nums_show (ds := r) fun x hx => h x (List.mem_cons_of_mem _ hx)
    have hl : n.natAbs.log2 < 1920 := by
      refine PySem.Flt.log2_lt_of (by decide) ?_
      have : n.natAbs < 10 ^ 15 := by omega
      exact Nat.lt_of_lt_of_le this (by decide +kernel)
    refine ⟨by show (true && plainL r) = true; rw [i1]; rfl, by show (decide (n.natAbs.log2 < 1920) && PyData.showableAll (pyL r)) = true; rw [i2, decide_eq_true hl]; rfl, by show (false || PyData.hasDictAll (pyL r)) = false; rw [i3]; rfl, ?_, fun t ht => ?_, by show (PyData.shownAll (pyL r)).length + 1 = r.length + 1; rw [i6]⟩
    · show PyData.depthAll (.int n :: pyL r) ≤ 0
      rw [PyData.depthAll, PyData.depth]
      omega
    · rcases List.mem_cons.mp ht with rfl | ht
      · exact toString_length_le h0 (by decide) h1
      · exact i5 t ht
theorem show_nums {ds : List D} (h : ∀ d ∈ ds, NumS d) (hl : ds.length ≤ 1000) : ShowOk (.tup ds) ∧ (showD (.tup ds)).length ≤ 17 * ds.length + 4 ∧ (py (.tup ds)).depth ≤ 1 := by
  obtain ⟨i1, i2, i3, i4, i5, i6⟩ := nums_show h
  have hsz : (showD (.tup ds)).length ≤ 17 * ds.length + 4 := by
    have := tupleText_le i5
    rw [i6] at this
    exact this
  have hd : (py (.tup ds)).depth ≤ 1 := by
    show (PyData.tuple (pyL ds)).depth ≤ 1
    rw [PyData.depth]
    omega
  refine ⟨⟨i1, i2, fun z => ?_, by omega, Nat.le_trans hsz (Nat.le_trans (by omega) (show 1000000 ≤ sizeLine by decide))⟩, hsz, hd⟩
  have : (py (.tup ds)).hasDict = false := i3
  rw [this] at z
  cases z
theorem ed_repr {ρ : Rh} {K : PySem.W.Frag} {δ : Dl} {te : TE} {d : D} (h : ED ρ K te δ d) (ok : ShowOk d) : ED ρ K (tCB (rRepr K) (tCons te tNil)) δ (.str (showD d)) := ed_cb (eda_cons h eda_nil) (cj_repr ok)
section
variable {ρ : Rh} {K : PySem.W.Frag} {δ : Dl} {tA : TA}
/-- range(lo, -1, -1) -/
theorem ij_down {lo : Int} (h : EDA ρ K tA δ [.int lo, .int (-1), .int (-1)]) (h0 : -1 ≤ lo) (h1 : lo < 1000000) : IJ ρ K (iRng3 tA) δ 0 (· = (List.range (lo + 1).toNat).map fun j => D.int (lo + (j : Nat) * (-1))) := .mk fun G0 H0 G H σ m R w hm q =>
  (h).run G0 H0 G H σ m _ w hm fun ds vs G' H' m' pd w' g l x => by
    subst pd
    cases x with
    | cons a1 x =>
      cases x with
      | cons a2 x =>
        cases x with
        | cons a3 x =>
          cases x
          cases a1
          cases a2
          cases a3
          have rg := RgC.neg (i := lo) (j := -1) (by omega) (by omega) (by decide) (by decide)
          have e : (lo - -1).toNat = (lo + 1).toNat := by omega
          rw [e] at rg
          refine ⟨lo, -1, -1, (lo + 1).toNat, rfl, rg, q _ (Itc lo (-1) (lo + 1).toNat) G' H' (fun _ => True) (fun i H v H' => H' = H ∧ v = .int (lo + (i : Nat) * (-1))) m' rfl w' g l ?_ (fun H2 s => trivial) ?_⟩
          · simp only [List.length_map, List.length_range]
            exact ⟨fun i _ hi _ => hi, fun _ _ => Nat.le_refl _, fun i H v H' _ _ y => y⟩
          · intro i x H1 H2 Gx hi s1 s2 y
            obtain ⟨rfl, rfl⟩ := y
            simp only [List.length_map, List.length_range] at hi
            exact ⟨Gx, _, by simp [List.getElem?_map, List.getElem?_range, hi], Gd.refl s2, .int _⟩
end
section
variable {P : Program} {w : World} {K : PySem.W.Frag} {mg : Str → Option Value} {base : Heap} {aH C : Addr}
structure Txs (K : PySem.W.Frag) (mg : Str → Option Value) : Prop extends Txv K mg where
  b_repr : mg "repr" = none
theorem slice_win {wss : List (List Tick)} {n k c : Nat} (hl : ∀ ws ∈ wss, ws.length = n) (hk : k < wss.length) (hc : k * n + n ≤ c) (hc2 : c ≤ wss.flatten.length) : cutD ((wss.flatten.take c).map tickD) (some ((k * n : Nat) : Int)) (some ((k * n + n : Nat) : Int)) = (wss[k]).map tickD := by
  rw [cut_both (by omega) (by rw [List.length_map, List.length_take]; omega), show k * n + n - k * n = n by omega, ← List.map_drop, ← List.map_take, List.drop_take, List.take_take, Nat.min_eq_left (by omega), flat_drop hl, List.drop_eq_getElem_cons hk, List.flatten_cons]
  have := hl _ (List.getElem_mem hk)
  rw [List.take_append_of_le_length (by omega), List.take_of_length_le (by omega)]
abbrev spWR0 (K : PySem.W.Frag) (C : Addr) (b : Bk) (wss : List (List Tick)) (c : Nat) : Sp := spJ K 3 (fun _ ds => ds = [bkD b, .ins C (bookF b), .lst ((wss.flatten.take c).map tickD)] ∧ RdOk b ∧ (∀ ws ∈ wss, WinOk b ws) ∧ wss.length ≤ 100 ∧ c ≤ wss.flatten.length) 0 (fun _ r => r = .bl true)
def spWR (K : PySem.W.Frag) (C : Addr) : Sp := fun vs H Q E => ∃ b wss c, spWR0 K C b wss c vs H Q E
theorem ok_wr {f : Addr} {fd : FuncData} (F : Fun K "_law_are_windows_right" "_law_are_windows_right" s__law_are_windows_right f fd) (T : Txs K mg) (c_first_bad : C8.Cal P w K mg base 5 "first_bad" (spFirst K C) []) (c_windows_in : KwC P w K mg base 7 "windows_in" ["book", "ticks"] ["ticks", "book"] (spWins K C) gK2 gK2) : FnG P w K mg base CX0 8 f fd ["own", "book", "ticks"] (spWR K C) := by
  refine FnG.mk_ F sc__law_are_windows_right (fun vs H Q E h => by obtain ⟨_, _, _, h⟩ := h; exact spJ_len h) (fun cdv A outer s H vs Q E hs hr h => ?_)
  obtain ⟨b, wss, c, h⟩ := h
  refine ⟨_, (pss_cons (ps_par (i := 3) (j := 4) (by rfl) sc__law_are_windows_right.nd rfl rfl (by decide) rfl rfl (pa_cons (pe_dget (hu_of hr) (pv 0) pe_str (fun _ _ => rfl)) (pa_cons (pe_op op_fdivW (pe_callB call_len_seq (by rfl) T.b_len (by decide +kernel) (pa_cons (pv 2) pa_nil)) (pe_dget (hu_of hr) (pv 0) pe_str (fun _ _ => rfl))) pa_nil)) (by rfl))
 (pss_cons (ps_set (i := 5) sc__law_are_windows_right.nd rfl (by first | exact Or.inl rfl | exact Or.inr rfl) (pe_lst pa_nil))
 (pss_cons (ps_for PassesOwn.never rfl (pi_range3 (by rfl) T.b_range (pa_cons (pe_op op_sub (pv 4) pe_int) (pa_cons (pe_un un_neg pe_int) (pa_cons (pe_un un_neg pe_int) pa_nil)))) (pg_name (i := 6) sc__law_are_windows_right.nd rfl (by first | exact Or.inl rfl | exact Or.inr rfl))
  (pss_one (ps_expr (pe_bm PySem.F.plainAttrs_list PySem.F.slot_list_extend PySem.F.type_list_extend mt_extend (pv 5) (pa_cons (pe_slice sl_list (pv 2) (po_some (pe_op op_mulW (pv 6) (pv 3))) (po_some (pe_op op_add (pe_op op_mulW (pv 6) (pv 3)) (pv 3)))) pa_nil)))))
 (pss_cons (ps_if (pt_cmpR op_notN (C8.pe_c c_first_bad hr (by omega) (by rfl) (pa_cons (pv 1) (pa_cons (pe_callTy call_tuple_of (by rfl) T.b_tuple (by decide +kernel) (pa_cons (pv 5) pa_nil)) pa_nil))) pe_non (by first | exact nomark _ | rfl)) (pss_one (ps_ret pe_bl)) pss_nil)
 (pss_one (ps_ret (pe_cmpR op_eq (pe_callB (call_repr hs hr.units) (by rfl) T.b_repr (by decide +kernel) (pa_cons (pe_kw c_windows_in hr (by omega) (by rfl) (pk_cons (pe_callTy call_tuple_of (by rfl) T.b_tuple (by decide +kernel) (pa_cons (pv 2) pa_nil)) (pk_cons (pv 1) pk_nil))) pa_nil)) (pe_callB (call_repr hs hr.units) (by rfl) T.b_repr (by decide +kernel) (pa_cons (pe_tup (pa_cons (pv 4) (pa_cons (pe_op op_sub (pe_callB call_len_seq (by rfl) T.b_len (by decide +kernel) (pa_cons (pv 2) pa_nil)) (pe_op op_mulW (pv 4) (pv 3))) pa_nil))) pa_nil)) (by first | exact nomark _ | rfl)))))))), body_of (n := 3) (fun ρ ds hl hp => ?_) h⟩
  obtain ⟨rfl, ok, hws, hwl, hc⟩ := hp
  try dsimp only [cxOf, Cx.nox, Cx.wish]
  have hw := ok.w
  have hn2 := ok.n2
  have hnl := ok.nl
  have hwn : b.window = (wN b : Nat) := by unfold wN; omega
  have hw1 : 1 ≤ wN b := by unfold wN; omega
  have hw40 : wN b ≤ 40 := by unfold wN; omega
  have hlw : ∀ ws ∈ wss, ws.length = wN b := fun ws h => by
    obtain ⟨rp, ro, z⟩ := hws ws h
    exact z.len
  have hfl := flat_len hlw
  obtain ⟨m, hm⟩ : ∃ m, m = c / wN b := ⟨_, rfl⟩
  have hmc : m * wN b ≤ c := by rw [hm]; exact Nat.div_mul_le_self _ _
  have hml : m ≤ wss.length := by
    have : m * wN b ≤ wss.length * wN b := by omega
    exact Nat.le_of_mul_le_mul_right this hw1
  have hc4 : c ≤ 4000 := by
    have : wss.length * wN b ≤ 100 * 40 := Nat.mul_le_mul hwl hw40
    omega
  have hcl : ((wss.flatten.take c).map tickD).length = c := by rw [List.length_map, List.length_take]; omega
  have hdiv : (c : Int) / (wN b : Nat) = (m : Nat) := by rw [hm]; simp
  let rv : List (List Tick) := (wss.take m).reverse
  have hrl : rv.length = m := by show (wss.take m).reverse.length = m; rw [List.length_reverse, List.length_take]; omega
  have hrm : ∀ ws ∈ rv, WinOk b ws := fun ws h => hws ws (List.mem_of_mem_take (List.mem_reverse.mp h))
  have hrw : ∀ ws ∈ rv, ws.length = wN b := fun ws h => hlw ws (List.mem_of_mem_take (List.mem_reverse.mp h))
  have hlog : ((wN b : Nat) : Int).natAbs.log2 < 9000 := PySem.Flt.log2_lt_of (by decide) (Nat.lt_of_le_of_lt (show ((wN b : Nat) : Int).natAbs ≤ 40 by omega) (Nat.lt_of_lt_of_le (show 40 < 2 ^ 6 by decide) (Nat.pow_le_pow_right (by decide) (by decide))))
  refine ⟨0, Nat.le_refl _, ?_⟩
  refine sj_le (k := 0 + (0 + (0 + (100 * 0 + (0 + (0 + 0)))))) ?_ (by decide)
  refine sj_par (k1 := 0) (k2 := 0 + (0 + (100 * 0 + (0 + (0 + 0))))) (PA := (· = [.int (wN b : Nat), .int (m : Nat)])) (eda_cons (by rw [← hwn]; exact ed_dget (x := .inr "window") (ed_var rfl) ed_str (bk_window b)) (eda_cons ?_ eda_nil)) ?_
  · have h0 := ed_cb (ρ := ρ) (K := K) (δ := initD 7 [bkD b, .ins C (bookF b), .lst ((wss.flatten.take c).map tickD)]) (eda_cons (ed_var (i := 2) rfl) eda_nil) (cj_len (ds := (wss.flatten.take c).map tickD))
    rw [hcl] at h0
    have h1 := ed_op h0 (ed_dget (x := .inr "window") (ed_var (i := 0) rfl) ed_str (bk_window b)) (rj_I (f := fun i j => i / j) (C := CDivW) ⟨by omega, by rw [hwn]; exact hlog⟩)
    rw [hwn, hdiv] at h1
    exact h1
  rintro _ rfl
  refine ⟨_, _, rfl, ?_⟩
  refine sj_new (k1 := 0) (k2 := 0 + (100 * 0 + (0 + (0 + 0)))) (P := (· = .lst [])) en_nil ?_
  rintro _ rfl
  let eI : List Tick → Dl := fun ts => [some (.val (bkD b)), some (.val (.ins C (bookF b))), some (.val (.lst ((wss.flatten.take c).map tickD))), some (.val (.int (wN b : Nat))), some (.val (.int (m : Nat))), some (.own (.lst (ts.map tickD))), none]
  refine sj_for (L := [6]) (k1 := 0) (kb := 0) (k2 := 0 + (0 + 0)) (N := 100) (PI := (· = (List.range ((m : Int) - 1 + 1).toNat).map fun j => D.int ((m : Int) - 1 + (j : Nat) * (-1)))) (ij_down (eda_cons (ed_op (ed_var rfl) ed_int rj_I0) (eda_cons (ed_un ed_int uj_neg) (eda_cons (ed_un ed_int uj_neg) eda_nil))) (by omega) (by omega)) (fun _ j δ' => δ' = eI (rv.take j).flatten) (fun _ => False) ?_ ?_ ?_ ?_
  · rintro _ rfl
    rw [List.length_map, List.length_range]; omega
  · rintro _ rfl
    rfl
  · rintro _ j d _ rfl hd rfl
    have hj : j < m := by
      have := (List.getElem?_eq_some_iff.mp hd).1
      rw [List.length_map, List.length_range] at this
      omega
    obtain rfl : d = .int ((m - 1 - j : Nat) : Int) := by
      rw [List.getElem?_map, List.getElem?_range (by omega)] at hd
      rw [← Option.some.inj hd]
      show D.int ((m : Int) - 1 + (j : Int) * (-1)) = _
      congr 1
      omega
    obtain ⟨k, hk⟩ : ∃ k, k = m - 1 - j := ⟨_, rfl⟩
    rw [← hk]
    have hkl : k < wss.length := by omega
    have hkm : k * wN b + wN b ≤ c := by
      have : (k + 1) * wN b ≤ m * wN b := Nat.mul_le_mul_right _ (by omega)
      rw [Nat.succ_mul] at this
      omega
    have hrj : rv[j]? = some wss[k] := by
      show (wss.take m).reverse[j]? = _
      have hjl : j < (wss.take m).length := by rw [List.length_take]; omega
      rw [List.getElem?_reverse hjl, List.length_take, Nat.min_eq_left hml, List.getElem?_take, if_pos (by omega), List.getElem?_eq_getElem (by omega)]
      congr 2
      omega
    refine ⟨_, gj_name, ?_⟩
    apply sj_last
    have hfl2 : (rv.take j).flatten.length ≤ 4000 := by
      rw [flat_len fun ws h => hrw ws (List.mem_of_mem_take h), List.length_take]
      have : min j rv.length * wN b ≤ 100 * 40 := Nat.mul_le_mul (by omega) hw40
      omega
    have hwk := hlw _ (List.getElem_mem hkl)
    refine sj_ext (i := 5) (ds := (rv.take j).flatten.map tickD) (es := (wss[k]).map tickD) rfl ?_ (by rw [List.length_map, List.length_map]; omega) ?_
    · rw [← slice_win hlw hkl hkm hc]
      have hmul : CMulW ((k : Nat) : Int) ((wN b : Nat) : Int) := wide_mul (a := 20) (b := 20) (by omega) (by omega) (by decide) (by decide) (by decide)
      have m1 := ed_op (ρ := ρ) (K := K) (δ := (eI (rv.take j).flatten).set 6 (some (.val (.int ((k : Nat) : Int))))) (ed_var (i := 6) rfl) (ed_var (i := 3) rfl) (rj_I (f := fun i j => i * j) (C := CMulW) hmul)
      have m2 := ed_op (ρ := ρ) (K := K) m1 (ed_var (i := 3) rfl) (rj_I0 (f := fun i j => i + j))
      rw [show ((k : Nat) : Int) * ((wN b : Nat) : Int) = ((k * wN b : Nat) : Int) by simp] at m1 m2
      rw [show ((k * wN b : Nat) : Int) + ((wN b : Nat) : Int) = ((k * wN b + wN b : Nat) : Int) by simp] at m2
      exact EN.ej (en_sl (ed_var rfl) (eo_some m1) (eo_some m2))
    · refine sj_nextW (δ' := eI (rv.take (j + 1)).flatten) ?_ rfl
      have e : (rv.take (j + 1)).flatten.map tickD = (rv.take j).flatten.map tickD ++ (wss[k]).map tickD := by
        rw [take_snoc hrj, List.flatten_append, List.map_append]
        simp
      show Fewer [some (.val (bkD b)), some (.val (.ins C (bookF b))), some (.val (.lst ((wss.flatten.take c).map tickD))), some (.val (.int (wN b : Nat))), some (.val (.int (m : Nat))), some (.own (.lst ((rv.take (j + 1)).flatten.map tickD))), none] _
      rw [e]
      exact .keep (.keep (.keep (.keep (.keep (.keep (.drop .nil))))))
  rintro _ _ rfl (rfl | z)
  rotate_left
  · exact z.elim
  rw [List.length_map, List.length_range, show ((m : Int) - 1 + 1).toNat = m by omega, List.take_of_length_le (by omega)]
  have hrn : firstB b (rv.flatten.map tickD) = .non := by
    have := wth_no ok hrm (c := rv.flatten.length) (Nat.le_refl _)
    rw [List.take_length] at this
    exact this
  have hcn : firstB b ((wss.flatten.take c).map tickD) = .non := wth_no ok hws hc
  have anyT : ∀ {ts : List Tick}, (∀ t ∈ ts, TickOk b t) → ∀ d ∈ ts.map tickD, TickAny d := fun h d hd => by
    obtain ⟨t, ht, rfl⟩ := List.mem_map.mp hd
    exact tickOkAny (h t ht) hn2 hnl
  have hrlen : (rv.flatten.map tickD).length ≤ 10000 := by
    rw [List.length_map, flat_len hrw, hrl]
    have : m * wN b ≤ 100 * 40 := Nat.mul_le_mul (by omega) hw40
    omega
  apply sj_frz 5 rfl
  apply sj_ifs (k1 := 0) (k2 := 0) (k3 := 0) (PT := (· = false))
  · have h0 := ed_first (ρ := ρ) (K := K) (C := C) (EE := C8.E0) (δ := (eI rv.flatten).set 5 (some (.val (.lst (rv.flatten.map tickD))))) (ed_var (i := 1) rfl) (ed_cb (eda_cons (ed_var (i := 5) rfl) eda_nil) cj_tupL) ok hrlen (anyT (wth_ticks ok hrm))
    rw [hrn] at h0
    exact eb_test (ed_op h0 ed_non (rj_notN true (fun h => by cases h; rfl)))
  · intro e; cases e
  intro _
  apply sj_nexts
  have sh : ∀ {x y : Nat}, x ≤ 10000 → y ≤ 10000 → ShowOk (.tup [.int (x : Nat), .int (y : Nat)]) := fun {x y} hx hy => (show_nums (ds := [.int (x : Nat), .int (y : Nat)]) (fun d hd => by
    simp only [List.mem_cons, List.not_mem_nil, or_false] at hd
    rcases hd with rfl | rfl
    · exact ⟨_, rfl, by omega, by omega⟩
    · exact ⟨_, rfl, by omega, by omega⟩) (by show 2 ≤ 1000; decide)).1
  have hmod : (c : Int) % (wN b : Nat) = ((c % wN b : Nat) : Int) := by simp
  have hr2 : c % wN b = c - m * wN b := by
    have := Nat.div_add_mod c (wN b)
    rw [← hm, Nat.mul_comm] at this
    omega
  have ewin : winsD b ((wss.flatten.take c).map tickD).length = .tup [.int (m : Nat), .int ((c - m * wN b : Nat) : Int)] := by
    unfold winsD
    rw [hcl, hwn, hdiv, hmod, hr2]
  have hm100 : m ≤ 100 := by omega
  apply sj_retP (P := (· = .bl true))
  · have h1 := ed_callK2 (ρ := ρ) (K := K) (EE := C8.E0) (sp := spWins K C) (x := .ins C (bookF b)) (y := .tup ((wss.flatten.take c).map tickD)) (r := winsD b ((wss.flatten.take c).map tickD).length) (δ := (eI rv.flatten).set 5 (some (.val (.lst (rv.flatten.map tickD))))) (eda_cons (ed_cb (eda_cons (ed_var (i := 2) rfl) eda_nil) cj_tupL) (eda_cons (ed_var (i := 1) rfl) eda_nil)) (fun vs H Q (h : spWins0 K C b ((wss.flatten.take c).map tickD) vs H Q _) => ⟨_, _, h⟩) ⟨rfl, ok, by omega, anyT fun t ht => wth_ticks ok hws t (List.mem_of_mem_take ht), hcn⟩ (fun d h => h)
    rw [ewin] at h1
    have h2 := ed_cb (ρ := ρ) (K := K) (δ := (eI rv.flatten).set 5 (some (.val (.lst (rv.flatten.map tickD))))) (eda_cons (ed_var (i := 2) rfl) eda_nil) (cj_len (ds := (wss.flatten.take c).map tickD))
    rw [hcl] at h2
    have hmul : CMulW ((m : Nat) : Int) ((wN b : Nat) : Int) := wide_mul (a := 20) (b := 20) (by omega) (by omega) (by decide) (by decide) (by decide)
    have h3 := ed_op h2 (ed_op (ed_var (i := 4) rfl) (ed_var (i := 3) rfl) (rj_I (f := fun i j => i * j) (C := CMulW) hmul)) (rj_I0 (f := fun i j => i - j))
    rw [show (c : Int) - ((m : Nat) : Int) * ((wN b : Nat) : Int) = ((c - m * wN b : Nat) : Int) by rw [Int.natCast_sub hmc]; simp] at h3
    have h4 := ed_op (ed_repr h1 (sh (by omega) (by omega))) (ed_repr (ed_tup (eda_cons (ed_var (i := 4) rfl) (eda_cons h3 eda_nil)) (by show 2 ≤ 1000000; decide)) (sh (by omega) (by omega))) rj_eqS
    rw [decide_eq_true rfl] at h4
    exact h4
  rintro _ rfl
  exact .inl ⟨_, rfl, rfl⟩
end
end DN

/-! the law of k04 -/
namespace DN
open PySem PySem.Spec PyProof.Rows L2
variable [Tb]
section
variable {ρ : Rh} {K : PySem.W.Frag} {E : XK} {δ δ' : Dl} {te ta tb tc th : TE} {t u ts : TS} {tt tu : TT} {tA : TA} {k k1 k2 k3 : Nat} {P P1 P2 : D → Prop} {a c d d0 : D} {i j : Nat} {b : Bk}
theorem sj_callBk {n cc : Nat} {PO : Out → Prop} {pre : Rh → List D → Prop} {post : Bk → Prop} {PA : List D → Prop} {EE : XK} {sp : Sp} (hi0 : δ[i]? = some none) (hv : vals δ = true) (h : EA ρ K tA δ k PA) (hsp : ∀ vs H Q, spBkJ K n pre cc post vs H Q EE → sp vs H Q EE) (h1 : ∀ ds, PA ds → ds.length = n ∧ pre ρ ds)
    (hn : ∀ b, post b → SB ρ K E i b u δ k2 (fun o => ∃ x, o = .o x ∧ PO x)) :
    SJ ρ K E (tSeq (tAsg (tCall sp [] EE tA) (gName i)) u) δ (k + cc + k2) PO := .mk fun G0 H0 G H σ m D w hm q =>
  h.run G0 H0 G H σ m _ w (by omega) fun ds vs G1 H1 m1 px w1 g1 l1 ax => by
    show sp (vs ++ []) H1 _ EE
    rw [List.append_nil]
    refine hsp _ _ _ ⟨ρ, G1, ds, m1, ax, (h1 ds px).1, w1.gd.sub, w1.pot, fun a e => w1.gnone e, by omega, (h1 ds px).2, fun b p r lv xs G2 H2 m2 pb g2 p2 l2 hbk => ?_⟩
    have w2 := w1.step g2 p2
    have hbk2 : BkP K H0 G2 H2 b p r lv xs := ⟨hbk.hp, hbk.hq, hbk.ss, hbk.ls, hbk.gp, hbk.gq, w1.fresh hbk.zp, w1.fresh hbk.zq⟩
    have hil : i < σ.length := by
      rw [w.len]
      exact (List.getElem?_eq_some_iff.mp hi0).1
    have w4 : Wf ρ K G0 H0 G2 H2 (σ.set i (some (.ref p))) δ m2 := by
      refine ⟨by rw [List.length_set]; exact w2.len, w2.gd, w2.pot, w2.pot0, fun l s e => ?_, fun l l' d' e' nn h1 h2 => ?_⟩
      · have hne : i ≠ l := fun z => by rw [← z, hi0] at e; cases e
        obtain ⟨x, hx1, hx2⟩ := w2.sl l s e
        exact ⟨x, by rw [List.getElem?_set_ne hne]; exact hx1, hx2⟩
      · obtain ⟨z, hz⟩ := vals_get hv h1
        cases hz
    refine (hn b pb).run G0 H0 G2 H2 _ m2 D w4 ⟨p, r, lv, xs, ?_, hbk2⟩ (by omega) fun o po => ?_
    · rw [List.getElem?_set_self hil]
    · obtain ⟨x, rfl, hx⟩ := po
      exact (q x hx).le (by omega)
theorem en_takeJ {ds : List D} (h : ED ρ K te δ (.lst ds)) (hh : EJ ρ K th δ k (fun d => ∃ c : Nat, d = .int (c : Nat) ∧ c ≤ ds.length)) : EN ρ K (tSl (rSlL K) te tNoPart (tPart th)) δ k (fun d => ∃ c, c ≤ ds.length ∧ d = .lst (ds.take c)) := .mk fun G0 H0 G H σ m Q w hm q =>
  (h).run G0 H0 G H σ m _ w (by omega) fun d v G1 H1 m1 px w1 g1 l1 ax => by
    subst px
    refine hh.run G0 H0 G1 H1 σ m1 _ w1 (by omega) fun d2 v2 G2 H2 m2 px2 w2 g2 l2 ax2 => ?_
    obtain ⟨c, rfl, hc⟩ := px2
    cases ax2
    have ax3 := ax.mono g2.gg
    refine ⟨(c : Int), rfl, ?_⟩
    have ec : cutD ds none (some (c : Int)) = ds.take c := by rw [cut_to (by omega), Int.toNat_natCast]
    cases ax3 with
    | @lst p xs _ hp hpl =>
      exact ⟨p, xs, rfl, .inl (.inl (w2.gd.sub _ _ hp)), en_fin w w2 (Gd.trans w1.pot g1 g2) (.lst (hpl.cut none (some (c : Int)))) fun p o G' H' m' w' g' l' => q _ p o G' H' m' ⟨c, hc, by show D.lst (cutD ds none (some (c : Int))) = _; rw [ec]⟩ w' g' (by omega)⟩
end
theorem AnyBk.read {b : Bk} (h : AnyBk 4 7 4 b) : RdOk b where
  w := ⟨h.good.w1, by have := h.w; omega⟩
  m := by have := h.m0; omega
  l := by have := h.late; omega
  goal := h.good.ok _ (List.mem_cons_self ..)
  names := fun s hs => h.good.ok _ (List.mem_cons_of_mem _ (List.mem_map.mpr ⟨s, hs, rfl⟩))
  nd := h.good.names
  ng := h.good.goal
  lv := fun s hs => by have := h.lev s hs; omega
  pt := h.put
  n1 := h.good.one
  n2 := by have := h.s; omega
  links := h.good.links
  nl := by have := h.l; omega
def prePot' : Rh → List D → Prop := fun ρ ds => ∃ a, ρ = .some a ∧ ds = [.opq (.ref a)]
abbrev spRight (K : PySem.W.Frag) : Sp := spJ K 1 prePot' 1000000000 (fun _ d => d = .bl true)
abbrev rLenOf (K : PySem.W.Frag) : List V → Hp → VK → Prop := fun xs H Q => ∃ p ys, xs = [.ref p] ∧ (SqL K H p ys ∨ SqT K H p ys) ∧ Q (.int ys.length) H
theorem show_bl (x : Bool) : ShowOk (.bl x) := by
  cases x
  · exact ⟨rfl, rfl, (fun e => nomatch e), (by decide), (by show (showD (.bl false)).length ≤ sizeLine; decide +kernel)⟩
  · exact ⟨rfl, rfl, (fun e => nomatch e), (by decide), (by show (showD (.bl true)).length ≤ sizeLine; decide +kernel)⟩
theorem show_non : ShowOk .non := ⟨rfl, rfl, (fun e => nomatch e), (by decide), (by decide +kernel)⟩
theorem show_nat {n : Nat} (h : n ≤ 10000) : ShowOk (.int (n : Nat)) := by
  have h0 : (0 : Int) ≤ (n : Nat) := by omega
  have h1 : ((n : Nat) : Int) < 10 ^ 15 := by omega
  refine ⟨rfl, ?_, (fun e => nomatch e), (by show 0 ≤ 60; decide), ?_⟩
  · show decide (((n : Nat) : Int).natAbs.log2 < 1920) = true
    rw [decide_eq_true_eq]
    refine PySem.Flt.log2_lt_of (by decide) ?_
    have : ((n : Nat) : Int).natAbs < 10 ^ 15 := by omega
    exact Nat.lt_of_lt_of_le this (by decide +kernel)
  · exact Nat.le_trans (toString_length_le h0 (k := 15) (by decide) h1) (by show 15 ≤ sizeLine; decide)
theorem show_first {b : Bk} {ds : List D} (h : ds.length ≤ 10000) : ShowOk (firstB b ds) := by
  unfold firstB
  split
  · rename_i j e
    have := List.mem_of_find?_eq_some e
    have := List.mem_range.mp this
    exact show_nat (by omega)
  · exact show_non
theorem eb_neSelfS {ρ : Rh} {K : PySem.W.Frag} {δ : Dl} {ta tb : TE} {n : Str} (h1 : ED ρ K ta δ (.str n)) (h2 : ED ρ K tb δ (.str n)) : ET ρ K (tTest (tOp rNe ta tb)) δ 0 (· = false) := by
  have := ed_op h1 h2 rj_neS
  rw [decide_eq_true (rfl : n = n)] at this
  exact eb_test this
section
variable {P : Program} {w : World} {K : PySem.W.Frag} {mg : Str → Option Value} {base : Heap} {aH C : Addr}
theorem ok_right {f : Addr} {fd : FuncData} (F : Fun K "_law_right" "_law_right" s__law_right f fd) (T : Txs K mg) (c__law_take : C8.Cal P w K mg base 1 "_law_take" (spTake K) []) (c__law_any_book : C8.Cal P w K mg base 6 "_law_any_book" (spAny K) [])
    (c__law_book_text : C8.Cal P w K mg base 1 "_law_book_text" (spText K) []) (c__law_weather : C8.Cal P w K mg base 5 "_law_weather" (spWth K) []) (c__law_bent_tick : C8.Cal P w K mg base 3 "_law_bent_tick" (spBent K) []) (c_is_tick : C8.Cal P w K mg base 4 "is_tick" (spTick K C) []) (c__law_is_own_tick : C8.Cal P w K mg base 2 "_law_is_own_tick" (spLTick K) [])
    (c_first_bad : C8.Cal P w K mg base 5 "first_bad" (spFirst K C) []) (c__law_first_wrong : C8.Cal P w K mg base 3 "_law_first_wrong" (spWrong K) []) (c_first_badk : KwC P w K mg base 5 "first_bad" ["book", "value"] ["value", "book"] (spFirst K C) gK2 gK2)
    (c__law_are_windows_right : CalG P w K mg base CX0 8 "_law_are_windows_right" (spWR K C))
    {fi : Addr} {fdi : FuncData} (MB : Mk K C fi) (FB : FnOk P w K mg base CX0 5 fi fdi ["self", "text"] (spMk K C)) (gBk : mg "Book" = some (.ref C)) (bB : Binds K fdi ["self", "text"] []) : FnG P w K mg base CX0 9 f fd ["pot"] (spRight K) := by
  refine FnG.mk_ F sc__law_right (fun vs H Q E h => spJ_len h) (fun cdv A outer s H vs Q E hs hr h => ?_)
  refine ⟨_, (pss_cons (ps_for PassesOwn.never rfl (pi_range1 (by rfl) T.b_range (pa_cons pe_int pa_nil)) (pg_name (i := 1) sc__law_right.nd rfl (by first | exact Or.inl rfl | exact Or.inr rfl))
  (pss_cons (ps_set (i := 2) sc__law_right.nd rfl (by first | exact Or.inl rfl | exact Or.inr rfl) (C8.pe_c c__law_any_book hr (by omega) (by rfl) (pa_cons (pv 0) (pa_cons pe_int (pa_cons pe_int (pa_cons pe_int pa_nil))))))
 (pss_cons (ps_par (i := 3) (j := 4) (by rfl) sc__law_right.nd rfl rfl (by decide) rfl rfl (pa_cons (pe_make MB FB (hr.mono (by decide)) (by rfl) gBk bB .nil pass0 (pa_cons (C8.pe_c c__law_book_text hr (by omega) (by rfl) (pa_cons (pv 2) pa_nil)) pa_nil)) (pa_cons (C8.pe_c c__law_weather hr (by omega) (by rfl) (pa_cons (pv 0) (pa_cons (pv 2) (pa_cons (pe_op op_add pe_int (C8.pe_c c__law_take hr (by omega) (by rfl) (pa_cons (pv 0) (pa_cons pe_int pa_nil)))) pa_nil)))) pa_nil)) (by rfl))
 (pss_cons (ps_set (i := 5) sc__law_right.nd rfl (by first | exact Or.inl rfl | exact Or.inr rfl) (pe_slice sl_list (pv 4) po_none (po_some (C8.pe_c c__law_take hr (by omega) (by rfl) (pa_cons (pv 0) (pa_cons (pe_op op_add (pe_callB call_len_seq (by rfl) T.b_len (by decide +kernel) (pa_cons (pv 4) pa_nil)) pe_int) pa_nil))))))
 (pss_cons (ps_if (PW.pt (pw_or (pt_cmpR op_notN (pe_kw c_first_badk hr (by omega) (by rfl) (pk_cons (pe_callTy call_tuple_of (by rfl) T.b_tuple (by decide +kernel) (pa_cons (pv 5) pa_nil)) (pk_cons (pv 3) pk_nil))) pe_non (by first | exact nomark _ | rfl)) (pw_or1 (pt_not (pt_val (pe_g (E := C8.E0) c__law_are_windows_right hs hr (by omega) pass0 (by rfl) (pa_cons (pv 2) (pa_cons (pv 3) (pa_cons (pv 5) pa_nil))))))))) (pss_one (ps_ret pe_bl)) pss_nil)
 (pss_one (ps_for PassesOwn.never rfl (pi_range1 (by rfl) T.b_range (pa_cons pe_int pa_nil)) (pg_name (i := 6) sc__law_right.nd rfl (by first | exact Or.inl rfl | exact Or.inr rfl))
  (pss_cons (ps_set (i := 7) sc__law_right.nd rfl (by first | exact Or.inl rfl | exact Or.inr rfl) (C8.pe_c c__law_take hr (by omega) (by rfl) (pa_cons (pv 0) (pa_cons (pe_callB call_len_seq (by rfl) T.b_len (by decide +kernel) (pa_cons (pv 4) pa_nil)) pa_nil))))
 (pss_cons (ps_set (i := 8) sc__law_right.nd rfl (by first | exact Or.inl rfl | exact Or.inr rfl) (C8.pe_c c__law_bent_tick hr (by omega) (by rfl) (pa_cons (pv 0) (pa_cons (pv 2) (pa_cons (pe_ix ix_list (pv 4) (pv 7) (fun _ _ => rfl)) pa_nil)))))
 (pss_cons (ps_if (pt_cmpR op_ne (pe_callB (call_repr hs hr.units) (by rfl) T.b_repr (by decide +kernel) (pa_cons (C8.pe_c c_is_tick hr (by omega) (by rfl) (pa_cons (pv 3) (pa_cons (pv 8) pa_nil))) pa_nil)) (pe_callB (call_repr hs hr.units) (by rfl) T.b_repr (by decide +kernel) (pa_cons (C8.pe_c c__law_is_own_tick hr (by omega) (by rfl) (pa_cons (pv 2) (pa_cons (pv 8) pa_nil))) pa_nil)) (by first | exact nomark _ | rfl)) (pss_one (ps_ret pe_bl)) pss_nil)
 (pss_cons (ps_set (i := 9) sc__law_right.nd rfl (by first | exact Or.inl rfl | exact Or.inr rfl) (pe_callTy call_tuple_of (by rfl) T.b_tuple (by decide +kernel) (pa_cons (pe_op op_cat (pe_op op_cat (pe_slice sl_list (pv 4) po_none (po_some (pv 7))) (pe_lst (pa_cons (pv 8) pa_nil))) (pe_slice sl_list (pv 4) (po_some (pe_op op_add (pv 7) pe_int)) po_none)) pa_nil)))
 (pss_one (ps_if (pt_cmpR op_ne (pe_callB (call_repr hs hr.units) (by rfl) T.b_repr (by decide +kernel) (pa_cons (C8.pe_c c_first_bad hr (by omega) (by rfl) (pa_cons (pv 3) (pa_cons (pv 9) pa_nil))) pa_nil)) (pe_callB (call_repr hs hr.units) (by rfl) T.b_repr (by decide +kernel) (pa_cons (C8.pe_c c__law_first_wrong hr (by omega) (by rfl) (pa_cons (pv 2) (pa_cons (pv 9) pa_nil))) pa_nil)) (by first | exact nomark _ | rfl)) (pss_one (ps_ret pe_bl)) pss_nil)))))))))))))
 (pss_one (ps_ret pe_bl))), body_of (n := 1) (fun ρ ds hl hp => ?_) h⟩
  obtain ⟨a, rfl, rfl⟩ := hp
  try dsimp only [cxOf, Cx.nox, Cx.wish]
  let e0 : Dl := [some (.val (.opq (.ref a))), none, none, none, none, none, none, none, none, none]
  refine ⟨0 + (3 * 300000000 + 0), by decide, ?_⟩
  apply sj_for (Inv := fun _ _ δ' => δ' = e0) (Br := fun _ => False) (N := 3)
  · exact ij_range1 ed_int ⟨by decide, by decide⟩
  · rintro _ rfl
    decide
  · rintro _ rfl
    rfl
  · rintro _ lap x _ rfl hd rfl
    refine ⟨_, gj_name, ?_⟩
    apply sj_fewer (δ' := e0) (.keep (.drop (.keep (.keep (.keep (.keep (.keep (.keep (.keep (.keep .nil))))))))))
    apply sj_le (k := 0 + 40000 + 200001000)
    · apply sj_callBk (i := 2) (n := 4) (cc := 40000) (k2 := 200001000) (post := AnyBk 4 7 4) (PA := (· = [.opq (.ref a), .int (4 : Nat), .int (7 : Nat), .int 4])) rfl rfl
        (eda_cons (ed_var rfl) (eda_cons ed_int (eda_cons ed_int (eda_cons ed_int eda_nil)))) (fun vs H Q h => ⟨4, 7, 4, h⟩) (fun ds e => ⟨by subst e; rfl, a, e, rfl, by decide, by decide, by decide, by decide, by decide⟩)
      intro b ab
      have ok := ab.read
      have hw := ok.w
      have hn2 := ok.n2
      have hnl := ok.nl
      have hw4 := ab.w
      apply sb_frz rfl (by show 2 < 10; decide)
      show SJ (.some a) K E _ [some (.val (.opq (.ref a))), none, some (.val (bkD b)), none, none, none, none, none, none, none] _ _
      refine SJ.mono (k := (0 + (200000010 + 0)) + ((0 + 1) + (0 + (0 + (6 * 10 + 0))))) ?_ (by decide) fun o po => ⟨o, rfl, po⟩
      refine sj_par (k1 := 0 + (200000010 + 0)) (k2 := (0 + 1) + (0 + (0 + (6 * 10 + 0)))) (PA := fun ds => ∃ wss : List (List Tick), ds = [.ins C (bookF b), .lst (wss.flatten.map tickD)] ∧ 1 ≤ wss.length ∧ wss.length ≤ 4 ∧ ∀ ws ∈ wss, WinOk b ws) (ea_cons (k1 := 0) (k2 := 200000010 + 0) (P1 := (· = .ins C (bookF b))) (PR := fun ds => ∃ wss : List (List Tick), ds = [.lst (wss.flatten.map tickD)] ∧ 1 ≤ wss.length ∧ wss.length ≤ 4 ∧ ∀ ws ∈ wss, WinOk b ws) ?_ ?_ ?_) ?_
      · exact ej_make (n := 1) (PA := (· = [.str (bookText b)])) (eda_cons (ej_callS (n := 1) (PA := (· = [bkD b])) (eda_cons (ed_var rfl) eda_nil) (fun vs H Q (h : spJ K 1 (fun _ ds => ds = [bkD b]) 0 (fun _ d => d = .str (bookText b)) vs H Q _) => ⟨b, ok.tx, h⟩) (fun ds e => ⟨by subst e; rfl, e⟩) (fun ds d e h => h)) eda_nil) (fun vs H Q (h : spMk0 K C b vs H Q _) => ⟨b, h⟩) (fun ds e => ⟨by subst e; rfl, e, ok⟩) (fun ds fd e h => by rw [h])
      · intro _ _
        refine ea_cons (k1 := 200000010) (k2 := 0) (P1 := fun d => ∃ wss : List (List Tick), d = .lst (wss.flatten.map tickD) ∧ 1 ≤ wss.length ∧ wss.length ≤ 4 ∧ ∀ ws ∈ wss, WinOk b ws) (PR := (· = [])) ?_ (fun _ _ => eda_nil) ?_
        · refine ej_le (k := (0 + (0 + ((0 + (0 + 1)) + 0))) + 200000000) ?_ (by decide)
          refine ej_callS (k := 0 + (0 + ((0 + (0 + 1)) + 0))) (n := 3) (PA := fun ds => ∃ n : Nat, 1 ≤ n ∧ n ≤ 4 ∧ ds = [.opq (.ref a), bkD b, .int (n : Nat)]) (pre := fun ρ ds => ∃ (a : Addr) (n : Nat), ds = [.opq (.ref a), bkD b, .int (n : Nat)] ∧ ρ = .some a ∧ RdOk b ∧ n ≤ 100) (c := 200000000) (post := fun ds r => ∃ (a : Addr) (n : Nat) (ts : List Tick), ds = [.opq (.ref a), bkD b, .int (n : Nat)] ∧ r = .lst (ts.map tickD) ∧ WthOk b n ts) ?_ ?_ ?_ ?_
          · refine ea_cons (P1 := (· = .opq (.ref a))) (PR := fun ds => ∃ n : Nat, 1 ≤ n ∧ n ≤ 4 ∧ ds = [bkD b, .int (n : Nat)]) ?_ (fun _ _ => ?_) ?_
            · exact ed_var rfl
            · refine ea_cons (P1 := (· = bkD b)) (PR := fun ds => ∃ n : Nat, 1 ≤ n ∧ n ≤ 4 ∧ ds = [.int (n : Nat)]) ?_ (fun _ _ => ?_) ?_
              · exact ed_var rfl
              · refine ea_cons (P1 := fun d => ∃ k : Int, d = .int k ∧ 1 ≤ k ∧ k ≤ 4) (PR := (· = [])) ?_ (fun _ _ => eda_nil) ?_
                · exact ej_1take rfl (ed_var rfl) ed_int (by decide) (by decide) (by decide) (by decide)
                rintro _ _ ⟨k, rfl, k1, k4⟩ rfl
                exact ⟨k.toNat, by omega, by omega, by rw [Int.toNat_of_nonneg (by omega)]⟩
              · rintro _ _ rfl ⟨n, n1, n4, rfl⟩
                exact ⟨n, n1, n4, rfl⟩
            · rintro _ _ rfl ⟨n, n1, n4, rfl⟩
              exact ⟨n, n1, n4, rfl⟩
          · rintro vs H Q ⟨ρ', G1, ds, m1, ax, hl1, s1, p1, g1, hm, ⟨a', n, e, hρ, ok', hn⟩, cont⟩
            exact ⟨b, n, ρ', G1, ds, m1, ax, hl1, s1, p1, g1, hm, ⟨a', e, hρ, ok', hn⟩, fun d v G' H' m' ⟨ts, e2, wo⟩ => cont d v G' H' m' ⟨a', n, ts, e, e2, wo⟩⟩
          · rintro _ ⟨n, n1, n4, rfl⟩
            exact ⟨rfl, a, n, rfl, rfl, ok, by omega⟩
          · rintro _ d ⟨n, n1, n4, rfl⟩ ⟨a', n', ts, e, rfl, wss, rfl, hl, hw⟩
            have hnn : n = n' := by
              have h3 := congrArg (fun l : List D => l[2]?) e
              have h4 : D.int (n : Nat) = D.int (n' : Nat) := Option.some.inj h3
              have h5 := D.int.inj h4
              omega
            exact ⟨wss, rfl, by omega, by omega, hw⟩
        · rintro _ _ ⟨wss, rfl, h1, h4, hw⟩ rfl
          exact ⟨wss, rfl, h1, h4, hw⟩
      · rintro _ _ rfl ⟨wss, rfl, h1, h4, hw⟩
        exact ⟨wss, rfl, h1, h4, hw⟩
      rintro _ ⟨wss, rfl, hw1, hwl4, hws⟩
      refine ⟨_, _, rfl, ?_⟩
      have hwn1 : 1 ≤ wN b := by unfold wN; omega
      have hwn4 : wN b ≤ 4 := by unfold wN; omega
      have hlw : ∀ ws ∈ wss, ws.length = wN b := fun ws h => by
        obtain ⟨rp, ro, z⟩ := hws ws h
        exact z.len
      have hfl := flat_len hlw
      have hfl16 : wss.flatten.length ≤ 16 := by
        have : wss.length * wN b ≤ 4 * 4 := Nat.mul_le_mul hwl4 hwn4
        omega
      have hfl1 : 1 ≤ wss.flatten.length := by
        have : 1 * 1 ≤ wss.length * wN b := Nat.mul_le_mul hw1 hwn1
        omega
      have anyT : ∀ t ∈ wss.flatten, TickAny (tickD t) := fun t ht => tickOkAny (wth_ticks ok hws t ht) hn2 hnl
      have htl : (wss.flatten.map tickD).length = wss.flatten.length := List.length_map ..
      have hlen : ∀ {δ : Dl}, δ[4]? = some (some (.val (.lst (wss.flatten.map tickD)))) → ED (.some a) K (tCB (rLenOf K) (tCons (tVar 4) tNil)) δ (.int (wss.flatten.length : Nat)) := fun h => by
        have := cj_len (K := K) (ds := wss.flatten.map tickD)
        rw [htl] at this
        exact ed_cb (eda_cons (ed_var h) eda_nil) this
      refine sj_set (k1 := 0 + 1) (P := fun d => ∃ c, c ≤ (wss.flatten.map tickD).length ∧ d = .lst ((wss.flatten.map tickD).take c)) (EN.ej (en_takeJ (ed_var rfl) ((ej_take rfl (ed_var rfl) (ed_op (hlen rfl) ed_int (rj_I0 (f := fun i j => i + j))) (by omega) (by omega)).mono (Nat.le_refl _) fun d h => ?_))) ?_
      · obtain ⟨r, rfl, r0, r1⟩ := h
        exact ⟨r.toNat, by rw [Int.toNat_of_nonneg r0], by omega⟩
      rintro _ ⟨c, hc, rfl⟩
      rw [htl] at hc
      rw [← List.map_take]
      let eC : Dl := [some (.val (.opq (.ref a))), none, some (.val (bkD b)), some (.val (.ins C (bookF b))), some (.val (.lst (wss.flatten.map tickD))), some (.val (.lst ((wss.flatten.take c).map tickD))), none, none, none, none]
      show SJ (.some a) K E _ eC _ _
      have hcn : firstB b ((wss.flatten.take c).map tickD) = .non := wth_no ok hws hc
      apply sj_ifs (k1 := 0) (k2 := 0) (k3 := 0 + (6 * 10 + 0)) (PT := (· = false))
      · have h1 := ed_callK2 (ρ := .some a) (K := K) (EE := C8.E0) (sp := spFirst K C) (x := .ins C (bookF b)) (y := .tup ((wss.flatten.take c).map tickD)) (r := firstB b ((wss.flatten.take c).map tickD)) (δ := eC) (eda_cons (ed_cb (eda_cons (ed_var (i := 5) rfl) eda_nil) cj_tupL) (eda_cons (ed_var (i := 3) rfl) eda_nil)) (fun vs H Q (h : spFirst0 K C b ((wss.flatten.take c).map tickD) vs H Q _) => ⟨_, _, h⟩) ⟨rfl, ok, by rw [List.length_map, List.length_take]; omega, fun d hd => by
          obtain ⟨t, ht, rfl⟩ := List.mem_map.mp hd
          exact anyT t (List.mem_of_mem_take ht)⟩ (fun d h => h)
        rw [hcn] at h1
        have h2 := eb_test (ed_op h1 ed_non (rj_notN true (fun h => by cases h; rfl)))
        have h3 : ED (.some a) K (tCall (spWR K C) [] C8.E0 (tCons (tVar 2) (tCons (tVar 3) (tCons (tVar 5) tNil)))) eC (.bl true) := ej_callS (n := 3) (PA := (· = [bkD b, .ins C (bookF b), .lst ((wss.flatten.take c).map tickD)])) (eda_cons (ed_var rfl) (eda_cons (ed_var rfl) (eda_cons (ed_var rfl) eda_nil))) (fun vs H Q (h : spWR0 K C b wss c vs H Q _) => ⟨_, _, _, h⟩) (fun ds e => ⟨by subst e; rfl, e, ok, hws, by omega, hc⟩) (fun ds d e h => h)
        exact eb_or h2 fun _ => eb_not (eb_B h3)
      · intro e; cases e
      intro _
      apply sj_nexts
      apply sj_last
      refine sj_for (L := [6]) (k1 := 0) (kb := 10) (k2 := 0) (N := 6) (ij_range1 ed_int ⟨by decide, by decide⟩) (fun _ _ δ' => δ' = eC) (fun _ => False) ?_ ?_ ?_ ?_
      · rintro _ rfl
        decide
      · rintro _ rfl
        rfl
      · rintro _ j d _ rfl hd rfl
        refine ⟨_, gj_name, ?_⟩
        refine sj_le (k := (0 + 1) + ((0 + 2) + (0 + (0 + (0 + 0))))) ?_ (by decide)
        refine sj_set (k1 := 0 + 1) (P := fun d => ∃ r : Int, d = .int r ∧ 0 ≤ r ∧ r < (wss.flatten.length : Nat)) (ej_take rfl (ed_var rfl) (hlen rfl) (by omega) (by omega)) ?_
        rintro _ ⟨r, rfl, r0, r1⟩
        obtain ⟨n, rfl⟩ : ∃ n : Nat, r = (n : Int) := ⟨r.toNat, by omega⟩
        have hn : n < wss.flatten.length := by omega
        have htn := List.getElem?_eq_getElem hn
        have tok := wth_ticks ok hws _ (List.getElem_mem hn)
        refine sj_set (k1 := 0 + 2) (P := TickAny) (ej_callS (sp := spBent K) (n := 3) (PA := (· = [.opq (.ref a), bkD b, tickD (wss.flatten[n])])) (eda_cons (ed_var rfl) (eda_cons (ed_var rfl) (eda_cons (ed_op (ed_var rfl) (ed_var rfl) (rj_ixL (d := tickD (wss.flatten[n])) (atI_nat (by rw [List.getElem?_map, htn]; rfl)))) eda_nil))) (fun vs H Q (h : spBent0 K b (wss.flatten[n]) vs H Q _) => ⟨_, _, h⟩) (fun ds e => And.intro (by subst e; rfl) (Exists.intro a (And.intro e (And.intro rfl (And.intro ok tok))))) (fun ds d e h => h)) ?_
        intro x hx
        let eD : Dl := [some (.val (.opq (.ref a))), none, some (.val (bkD b)), some (.val (.ins C (bookF b))), some (.val (.lst (wss.flatten.map tickD))), some (.val (.lst ((wss.flatten.take c).map tickD))), some (.val d), some (.val (.int (n : Nat))), some (.val x), none]
        show SJ (.some a) K E _ eD _ _
        apply sj_ifs (k1 := 0) (k2 := 0) (k3 := 0 + (0 + 0)) (PT := (· = false))
        · have h1 : ED (.some a) K (tCall (spTick K C) [] C8.E0 (tCons (tVar 3) (tCons (tVar 8) tNil))) eD (.bl (tickB b x)) := ej_callS (n := 2) (PA := (· = [.ins C (bookF b), x])) (eda_cons (ed_var rfl) (eda_cons (ed_var rfl) eda_nil)) (fun vs H Q (h : spTick0 K C b x vs H Q _) => ⟨_, _, h⟩) (fun ds e => ⟨by subst e; rfl, e, ok, hx⟩) (fun ds d e h => h)
          have h2 : ED (.some a) K (tCall (spLTick K) [] C8.E0 (tCons (tVar 2) (tCons (tVar 8) tNil))) eD (.bl (tickB b x)) := ej_callS (n := 2) (PA := (· = [bkD b, x])) (eda_cons (ed_var rfl) (eda_cons (ed_var rfl) eda_nil)) (fun vs H Q (h : spLTick0 K b x vs H Q _) => ⟨_, _, h⟩) (fun ds e => ⟨by subst e; rfl, e, ok, hx⟩) (fun ds d e h => h)
          exact eb_neSelfS (ed_repr h1 (show_bl _)) (ed_repr h2 (show_bl _))
        · intro e; cases e
        intro _
        apply sj_nexts
        obtain ⟨vs, hvs⟩ : ∃ vs, vs = (cutD (wss.flatten.map tickD) none (some (n : Int)) ++ [x]) ++ cutD (wss.flatten.map tickD) (some ((n : Int) + 1)) none := ⟨_, rfl⟩
        have hv1 := cut_le (ds := wss.flatten.map tickD) (lo := none) (hi := some (n : Int))
        have hv2 := cut_le (ds := wss.flatten.map tickD) (lo := some ((n : Int) + 1)) (hi := none)
        have hvl : vs.length ≤ 10000 := by
          rw [hvs, List.length_append, List.length_append, List.length_singleton]
          omega
        have hva : ∀ d ∈ vs, TickAny d := by
          intro y hy
          rw [hvs, List.mem_append, List.mem_append, List.mem_singleton] at hy
          have cs : ∀ {lo hi : Option Int}, y ∈ cutD (wss.flatten.map tickD) lo hi → TickAny y := fun h => by
            obtain ⟨t, ht, rfl⟩ := List.mem_map.mp (cut_sub h)
            exact anyT t ht
          rcases hy with (hy | rfl) | hy
          · exact cs hy
          · exact hx
          · exact cs hy
        refine sj_set (k1 := 0) (P := (· = .tup vs)) ?_ ?_
        · rw [hvs]
          refine ed_cb (eda_cons (EN.ej (en_catE (EN.ej (en_catE (EN.ej (en_sl (ed_var rfl) eo_none (eo_some (ed_var rfl)))) (EN.ej (en_lst (PA := (· = [x])) (eda_cons (ed_var rfl) eda_nil) (fun ds e => by subst e; show 1 ≤ 1000000; decide) (fun ds e => by rw [e]))) ?_)) (EN.ej (en_sl (ed_var rfl) (eo_some (ed_op (ed_var rfl) ed_int rj_I0)) eo_none)) ?_)) eda_nil) cj_tupL
          · rw [List.length_singleton]; omega
          · rw [List.length_append, List.length_singleton]; omega
        rintro _ rfl
        let eF : Dl := [some (.val (.opq (.ref a))), none, some (.val (bkD b)), some (.val (.ins C (bookF b))), some (.val (.lst (wss.flatten.map tickD))), some (.val (.lst ((wss.flatten.take c).map tickD))), some (.val d), some (.val (.int (n : Nat))), some (.val x), some (.val (.tup vs))]
        show SJ (.some a) K E _ eF _ _
        apply sj_last
        apply sj_ifs (k1 := 0) (k2 := 0) (k3 := 0) (PT := (· = false))
        · have h1 := ed_first (ρ := .some a) (K := K) (C := C) (EE := C8.E0) (δ := eF) (ed_var (i := 3) rfl) (ed_var (i := 9) rfl) ok hvl hva
          have h2 : ED (.some a) K (tCall (spWrong K) [] C8.E0 (tCons (tVar 2) (tCons (tVar 9) tNil))) eF (firstB b vs) := ej_callS (n := 2) (PA := (· = [bkD b, .tup vs])) (eda_cons (ed_var rfl) (eda_cons (ed_var rfl) eda_nil)) (fun vs' H Q (h : spWrong0 K b vs vs' H Q _) => ⟨_, _, h⟩) (fun ds e => ⟨by subst e; rfl, e, ok, hvl, hva⟩) (fun ds d e h => h)
          exact eb_neSelfS (ed_repr h1 (show_first hvl)) (ed_repr h2 (show_first hvl))
        · intro e; cases e
        intro _
        apply sj_nexts
        exact sj_nextW (.keep (.keep (.keep (.keep (.keep (.keep (.drop (.drop (.drop (.drop .nil)))))))))) rfl
      rintro _ _ rfl (rfl | z)
      rotate_left
      · exact z.elim
      exact sj_nextW (.keep (.keep (.drop (.drop (.drop (.drop (.keep (.keep (.keep (.keep .nil)))))))))) rfl
    · decide
  · rintro _ _ rfl (rfl | z)
    rotate_left
    · exact z.elim
    apply sj_retP (P := (· = .bl true)) ed_bl
    rintro _ rfl
    exact .inl ⟨_, rfl, rfl⟩
def spLaw (K : PySem.W.Frag) : Sp := fun vs H Q _ => ∃ (a : Addr) (ns : List Int), vs = [.ref a] ∧ SqL K H a (ns.map V.int) ∧ ns.length ≤ 63 ∧ PotS .law 0 H ∧ ∀ H', Q (.bl true) H'
theorem ok_law {f : Addr} {fd : FuncData} (F : Fun K "law" "law" s_law f fd) (T : Txv K mg) (c__law_pot : C8.Cal P w K mg base 1 "_law_pot" (spPot K) []) (c__law_cells : C8.Cal P w K mg base 1 "_law_cells" (spCells K) []) (c__law_right : CalG P w K mg base CX0 9 "_law_right" (spRight K)) :
    FnG P w K mg base CX0 10 f fd ["script"] (spLaw K) := by
  refine FnG.mk_ F sc_law (fun vs H Q E h => ?_) (fun cdv A outer s H vs Q E hs hr h => ?_)
  · obtain ⟨a, ns, rfl, _⟩ := h
    rfl
  obtain ⟨a, ns, rfl, hS, hl, hP, q⟩ := h
  refine ⟨_, (pss_one (ps_ret (pe_callB (cr_all (by rfl)) (by rfl) T.b_all (by decide +kernel) (pa_cons (pe_lc (own := [("place", 1)]) rfl sc_law.nd (pi_list (C8.pe_c c__law_cells hr (by omega) (by rfl) (pa_cons (pv 0) (pa_cons pe_int pa_nil)))) (blkOk_by (N := ["script", "place"]) (sc := defScope s_law) (by decide +kernel)) (fun _ _ _ _ _ => (pg_name (i := 1) sc_law.nd rfl (by first | exact Or.inl rfl | exact Or.inr rfl))) (fun _ _ _ _ _ => pts_nil) (fun _ _ _ _ _ => (pe_g (E := C8.E0) c__law_right hs hr (by omega) pass0 (by rfl) (pa_cons (C8.pe_c c__law_pot hr (by omega) (by rfl) (pa_cons (pv 0) (pa_cons (pv 1) pa_nil))) pa_nil)))) pa_nil)))), ?_⟩
  have J := sj_law (K := K) (δ := [some (.val (.scr ns)), none]) (pre := prePot') (post := fun _ d => d = .bl true) (c := 1000000000) (most := 2) (ns := ns) (L := [1]) (vs := [1]) (g := gName 1) (δt := fun d => [some (.val (.scr ns)), some (.val d)]) (E := E) (E1 := C8.E0) (E2 := C8.E0) (E3 := C8.E0) (ta := tVar 0) (tb := tC (.int 2)) (tc := tVar 0) (td := tVar 1)
    hl (by decide) (by decide) (by decide) (ed_var rfl) ed_int (fun i h => h) (fun d => gj_name) (fun d => ed_var rfl) (fun d => ed_var rfl) (fun p => ⟨p, rfl, rfl⟩) (fun p d h => h)
  refine J.run (noTab H) H (noTab H) H _ 0 _ (wf_script hP hS rfl rfl fun i s e => ?_) (by decide) (fun o e => ?_)
  · match i, e with
    | 0, e => cases e; exact ⟨rfl, rfl⟩
    | 1, e => cases e
    | n + 2, e => simp at e
  · subst e
    intro v G' H' m' g p l hv
    cases hv
    exact q H'
end
end DN

namespace DN
open PySem PySem.Spec PyProof.Rows L2
theorem potS_off {H : Hp} : @PotS ⟨[], false⟩ .law 0 H := @PotS.mk ⟨[], false⟩ .law 0 H (by intro p hp; cases hp) (fun on => nomatch on) (fun a e => nomatch e)
variable [Tb]
/-! ### what the top has left -/
structure DefAt (K : PySem.W.Frag) (mg : Str → Option Value) (x : Str) (st : Stmt) : Prop where
  ex : ∃ (f : Addr) (fd : FuncData), mg x = some (.ref f) ∧ Fun K x x st f fd ∧ PySem.W.keepIn K (.ref f) = true
theorem def_of {K : PySem.W.Frag} {h : Heap} {mg : Str → Option Value} {x : Str} {st : Stmt} {f : Addr} {oc : Value} {od an : Option Addr} {osl : Array (Option Value)} {kV doc pm cdv ct : Value} (X : K.In h) (G : h.Ns mainGlobals mg)
    (a : PySem.W.nsIn K mainGlobals x = some (some (.ref f))) (l : K.lookup f = some ⟨oc, od, .func (PySem.W.fnOf x x (defArgs st) (defBody st) (defScope st) .none kV doc pm an cdv ct), osl⟩)
    (c : PySem.W.codeIn K cdv x = true) (k : PySem.W.keepIn K (.ref f) = true) : DefAt K mg x st := ⟨⟨f, _, PySem.W.mg_of X G a, fun_mk l c k, k⟩⟩
structure MethAt (K : PySem.W.Frag) (x q : Str) (st : Stmt) (f : Addr) : Prop where
  ex : ∃ fd : FuncData, Fun K x q st f fd
theorem meth_of {K : PySem.W.Frag} {x q : Str} {st : Stmt} {f : Addr} {oc : Value} {od an : Option Addr} {osl : Array (Option Value)} {kV doc pm cdv ct : Value} (l : K.lookup f = some ⟨oc, od, .func (PySem.W.fnOf x q (defArgs st) (defBody st) (defScope st) .none kV doc pm an cdv ct), osl⟩)
    (c : PySem.W.codeIn K cdv q = true) (k : PySem.W.keepIn K (.ref f) = true) : MethAt K x q st f := ⟨⟨_, fun_mk l c k⟩⟩
structure ConAt (mg : Str → Option Value) (x : Str) (v : V) : Prop where
  ex : ∃ u, mg x = some u ∧ RelV v u
theorem con_of {K : PySem.W.Frag} {h : Heap} {mg : Str → Option Value} {x : Str} {v : V} {u : Value} (X : K.In h) (G : h.Ns mainGlobals mg) (a : PySem.W.nsIn K mainGlobals x = some (some u)) (r : RelV v u) : ConAt mg x v := ⟨⟨u, PySem.W.mg_of X G a, r⟩⟩
theorem relS {x y : Str} {t} (h : y = x) : RelV (.str x) (.str y t) := by subst h; exact ⟨t, rfl⟩
/-- a pair that stands at the top -/
structure PairAt (K : PySem.W.Frag) (x : Addr) (i j : Int) : Prop where
  ex : ∃ (o : Obj) (u v : Value) (n : Nat), K.lookup x = some o ∧ o.cls = .type "tuple" ∧ o.data = .seq #[u, v] n ∧ RelV (.int i) u ∧ RelV (.int j) v
theorem pair_of {K : PySem.W.Frag} {x : Addr} {i j : Int} {od : Option Addr} {osl : Array (Option Value)} {u v : Value} {n : Nat} (l : K.lookup x = some ⟨.type "tuple", od, .seq #[u, v] n, osl⟩) (h1 : RelV (.int i) u) (h2 : RelV (.int j) v) : PairAt K x i j := ⟨⟨_, u, v, n, l, rfl, rfl, h1, h2⟩⟩
theorem PairAt.at_ {K : PySem.W.Frag} {x : Addr} {i j : Int} (h : PairAt K x i j) (G : Hp) : At K G (.ref x) (.tup [.int i, .int j]) := by
  obtain ⟨o, u, v, n, l, e1, e2, r1, r2⟩ := h.ex
  exact .tup (.inr ⟨o, _, n, l, e1, e2, (by show 2 ≤ sizeLine; decide), .cons r1 (.cons r2 .nil)⟩) (.cons (.int _) (.cons (.int _) .nil))
structure HeadAt (K : PySem.W.Frag) (a : Addr) : Prop where
  ex : ∃ (o : Obj) (x y z : Addr) (n : Nat), K.lookup a = some o ∧ o.cls = .type "tuple" ∧ o.data = .seq #[.ref x, .ref y, .ref z] n ∧ PairAt K x 1 40 ∧ PairAt K y 0 10000000 ∧ PairAt K z 0 20
theorem head_of {K : PySem.W.Frag} {a x y z : Addr} {od : Option Addr} {osl : Array (Option Value)} {n : Nat} (l : K.lookup a = some ⟨.type "tuple", od, .seq #[.ref x, .ref y, .ref z] n, osl⟩) (h1 : PairAt K x 1 40) (h2 : PairAt K y 0 10000000) (h3 : PairAt K z 0 20) : HeadAt K a := ⟨⟨_, x, y, z, n, l, rfl, rfl, h1, h2, h3⟩⟩
theorem HeadAt.at_ {K : PySem.W.Frag} {a : Addr} (h : HeadAt K a) (G : Hp) : At K G (.ref a) headD := by
  obtain ⟨o, x, y, z, n, l, e1, e2, h1, h2, h3⟩ := h.ex
  exact .tup (.inr ⟨o, _, n, l, e1, e2, (by show 3 ≤ sizeLine; decide), .cons (show RelV (.ref x) (.ref x) from rfl) (.cons (show RelV (.ref y) (.ref y) from rfl) (.cons (show RelV (.ref z) (.ref z) from rfl) .nil))⟩) (.cons (h1.at_ G) (.cons (h2.at_ G) (.cons (h3.at_ G) .nil)))
/-- the class Book -/
structure BookAt (K : PySem.W.Frag) (mg : Str → Option Value) (C fi fL : Addr) : Prop where
  g : mg "Book" = some (.ref C)
  c : BkC K C
  mks : Mk K C fi
  ln : PySem.W.findIn K (.ref C) "__len__" = some (some (.ref fL))
  lf : PySem.W.isFn K (.ref fL) = true
theorem book_of {K : PySem.W.Frag} {h : Heap} {mg : Str → Option Value} {C fi fL : Addr} (X : K.In h) (G : h.Ns mainGlobals mg) (a : PySem.W.nsIn K mainGlobals "Book" = some (some (.ref C)))
    (pg : PySem.W.plainGet K C Str.empty = true) (hd : PySem.W.hasDictIn K C = true) (po : PySem.W.plainOver K C = true) (sa : PySem.W.findIn K (.ref C) "__setattr__" = some (some (.builtin "object.__setattr__")))
    (n1 : PySem.W.findIn K (.ref C) "text" = some none) (n2 : PySem.W.findIn K (.ref C) "window" = some none) (n3 : PySem.W.findIn K (.ref C) "margin" = some none) (n4 : PySem.W.findIn K (.ref C) "late" = some none) (n5 : PySem.W.findIn K (.ref C) "goal" = some none) (n6 : PySem.W.findIn K (.ref C) "stations" = some none) (n7 : PySem.W.findIn K (.ref C) "links" = some none)
    (mk : PySem.W.makesIn K C = true) (ii : PySem.W.findIn K (.ref C) "__init__" = some (some (.ref fi))) (fn : PySem.W.isFn K (.ref fi) = true) (kp : PySem.W.keepIn K (.ref C) = true)
    (ln : PySem.W.findIn K (.ref C) "__len__" = some (some (.ref fL))) (lf : PySem.W.isFn K (.ref fL) = true) : BookAt K mg C fi fL :=
  ⟨PySem.W.mg_of X G a, ⟨⟨pg, hd, po, sa⟩, n1, n2, n3, n4, n5, n6, n7⟩, ⟨mk, ii, fn, kp⟩, ln, lf⟩
theorem gK2_rel {vs : List V} {us : List Value} {zs : List V} {ws : List Value} (r : Vals vs us) (rz : Vals zs ws) : Vals (gK2 vs zs) (gK2 us ws) := by
  cases r with
  | cons _ _ => exact .nil
  | nil =>
    cases rz with
    | nil => exact .nil
    | cons r1 rz =>
      cases rz with
      | nil => exact .nil
      | cons r2 rz =>
        cases rz with
        | nil => exact .cons r2 (.cons r1 .nil)
        | cons _ _ => exact .nil
theorem kb_windows_in {K : PySem.W.Frag} {f : Addr} {fd : FuncData} (F : Fun K "windows_in" "windows_in" s_windows_in f fd) : KBinds K fd ["book", "ticks"] ["ticks", "book"] gK2 gK2 := by
  refine ⟨fun s us ws _ hl => ?_, fun {vs us zs ws} r rz => gK2_rel r rz⟩
  obtain ⟨oc, od, kV, doc, pm, an, cdv, ct, osl, rfl, lk, hcd⟩ := F.ex
  unfold gK2 at hl
  match us, ws, hl with
  | [], [y, x], _ => exact .of_eq rfl
theorem kb_first_bad {K : PySem.W.Frag} {f : Addr} {fd : FuncData} (F : Fun K "first_bad" "first_bad" s_first_bad f fd) : KBinds K fd ["book", "value"] ["value", "book"] gK2 gK2 := by
  refine ⟨fun s us ws _ hl => ?_, fun {vs us zs ws} r rz => gK2_rel r rz⟩
  obtain ⟨oc, od, kV, doc, pm, an, cdv, ct, osl, rfl, lk, hcd⟩ := F.ex
  unfold gK2 at hl
  match us, ws, hl with
  | [], [y, x], _ => exact .of_eq rfl
end DN

namespace DN
open PySem PySem.Spec PyProof.Rows L2
variable [Tb]
section
variable {P : Program} {w : World} {K : PySem.W.Frag} {mg : Str → Option Value} {h : Heap}
theorem all_mk {fa C fi fL aH : Addr} (X : K.In h) (G : h.Ns mainGlobals mg) (hfa : mg "law" = some (.ref fa))
    (B : BookAt K mg C fi fL) (mi : MethAt K "__init__" "Book.__init__" s_Book___init__ fi) (mL : MethAt K "__len__" "Book.__len__" s_Book___len__ fL)
    (kH : ConAt mg "HEAD" (.ref aH)) (hH : HeadAt K aH)
    (k_LETTERS : ConAt mg "LETTERS" (.str "abcdefghijklmnopqrstuvwxyz")) (k_FIGURES : ConAt mg "FIGURES" (.str "0123456789")) (k_LONGEST_NAME : ConAt mg "LONGEST_NAME" (.int 8)) (k_LONGEST_NUMBER : ConAt mg "LONGEST_NUMBER" (.int 9)) (k_MOST_STATIONS : ConAt mg "MOST_STATIONS" (.int 20)) (k_MOST_LEVEL : ConAt mg "MOST_LEVEL" (.int 300000000)) (k_MOST_PUT : ConAt mg "MOST_PUT" (.int 1000000)) (k_MOST_LINKS : ConAt mg "MOST_LINKS" (.int 60)) (k_MOST_ROOM : ConAt mg "MOST_ROOM" (.int 1000)) (k_MOST_TICKS : ConAt mg "MOST_TICKS" (.int 10000)) (k_MOST_PUT_IN : ConAt mg "MOST_PUT_IN" (.int 1000000))
    (d0 : DefAt K mg "_law_pot" s__law_pot) (d1 : DefAt K mg "_law_take" s__law_take) (d2 : DefAt K mg "_law_of" s__law_of) (d3 : DefAt K mg "_law_cells" s__law_cells) (d4 : DefAt K mg "_law_some" s__law_some) (d5 : DefAt K mg "_law_names" s__law_names) (d6 : DefAt K mg "_law_links" s__law_links) (d7 : DefAt K mg "_law_way_home" s__law_way_home) (d8 : DefAt K mg "_law_filled" s__law_filled) (d9 : DefAt K mg "_law_book" s__law_book) (d10 : DefAt K mg "_law_flow_book" s__law_flow_book) (d11 : DefAt K mg "_law_any_book" s__law_any_book) (d12 : DefAt K mg "_law_book_text" s__law_book_text) (d13 : DefAt K mg "is_integer" s_is_integer) (d14 : DefAt K mg "is_between" s_is_between) (d15 : DefAt K mg "is_name" s_is_name) (d16 : DefAt K mg "number_of" s_number_of) (d17 : DefAt K mg "values_of" s_values_of) (d18 : DefAt K mg "is_station" s_is_station) (d19 : DefAt K mg "is_link" s_is_link) (d20 : DefAt K mg "read_head" s_read_head) (d21 : DefAt K mg "read_goal" s_read_goal) (d22 : DefAt K mg "read_stations" s_read_stations) (d23 : DefAt K mg "read_links" s_read_links) (d24 : DefAt K mg "is_row" s_is_row) (d25 : DefAt K mg "is_ascending" s_is_ascending) (d26 : DefAt K mg "is_opens" s_is_opens) (d27 : DefAt K mg "is_tick" s_is_tick) (d28 : DefAt K mg "left_at_first" s_left_at_first) (d29 : DefAt K mg "left_behind" s_left_behind) (d30 : DefAt K mg "first_bad" s_first_bad) (d31 : DefAt K mg "check_ticks" s_check_ticks) (d32 : DefAt K mg "_law_put_row" s__law_put_row) (d33 : DefAt K mg "_law_open_ticks" s__law_open_ticks) (d34 : DefAt K mg "_law_window" s__law_window) (d35 : DefAt K mg "_law_weather" s__law_weather) (d36 : DefAt K mg "_law_is_int" s__law_is_int) (d37 : DefAt K mg "_law_is_own_tick" s__law_is_own_tick) (d38 : DefAt K mg "_law_can_be" s__law_can_be) (d39 : DefAt K mg "_law_first_wrong" s__law_first_wrong) (d40 : DefAt K mg "_law_bent_tick" s__law_bent_tick) (d41 : DefAt K mg "windows_in" s_windows_in) (d42 : DefAt K mg "_law_are_windows_right" s__law_are_windows_right) (d43 : DefAt K mg "_law_right" s__law_right) (d44 : DefAt K mg "law" s_law)
    (z_int : PySem.W.nsIn K mainGlobals "int" = some none) (z_len : PySem.W.nsIn K mainGlobals "len" = some none) (z_abs : PySem.W.nsIn K mainGlobals "abs" = some none) (z_sum : PySem.W.nsIn K mainGlobals "sum" = some none) (z_list : PySem.W.nsIn K mainGlobals "list" = some none) (z_range : PySem.W.nsIn K mainGlobals "range" = some none) (z_max : PySem.W.nsIn K mainGlobals "max" = some none) (z_min : PySem.W.nsIn K mainGlobals "min" = some none) (z_isinstance : PySem.W.nsIn K mainGlobals "isinstance" = some none) (z_all : PySem.W.nsIn K mainGlobals "all" = some none) (z_str : PySem.W.nsIn K mainGlobals "str" = some none) (z_bool : PySem.W.nsIn K mainGlobals "bool" = some none) (z_tuple : PySem.W.nsIn K mainGlobals "tuple" = some none) (z_enumerate : PySem.W.nsIn K mainGlobals "enumerate" = some none) (z_zip : PySem.W.nsIn K mainGlobals "zip" = some none) (z_repr : PySem.W.nsIn K mainGlobals "repr" = some none) (z_dict : PySem.W.nsIn K mainGlobals "dict" = some none) :
    ∃ fd : FuncData, (∀ (s : Shared) (v : Value), BindsTo s fd ⟨[v], []⟩ [("script", v)]) ∧ ∀ base : Heap, K.In base → base.Ns mainGlobals mg → FnG P w K mg base CX0 10 fa fd ["script"] (spLaw K) := by
  have no : ∀ {n : Str}, PySem.W.nsIn K mainGlobals n = some none → mg n = none := fun e => PySem.W.mg_none_of X G e
  have T0 : Txt K mg := ⟨no z_int, no z_len, no z_abs, no z_sum, no z_list, no z_range, no z_max, no z_min⟩
  have Tv : Txv K mg := { toTxt := T0, b_isinstance := no z_isinstance, b_all := no z_all, b_str := no z_str, b_bool := no z_bool, b_tuple := no z_tuple, b_enumerate := no z_enumerate, b_zip := no z_zip, k_LETTERS := k_LETTERS.ex, k_FIGURES := k_FIGURES.ex, k_LONGEST_NAME := k_LONGEST_NAME.ex, k_LONGEST_NUMBER := k_LONGEST_NUMBER.ex, k_MOST_STATIONS := k_MOST_STATIONS.ex, k_MOST_LEVEL := k_MOST_LEVEL.ex, k_MOST_PUT := k_MOST_PUT.ex, k_MOST_LINKS := k_MOST_LINKS.ex, k_MOST_ROOM := k_MOST_ROOM.ex }
  have Tr : Txr K mg aH := { toTxv := Tv, k_HEAD := kH.ex, st := fun G => hH.at_ G }
  have Tw : Txw K mg := { toTxv := Tv, k_MOST_TICKS := k_MOST_TICKS.ex, k_MOST_PUT_IN := k_MOST_PUT_IN.ex }
  have Ts : Txs K mg := { toTxv := Tv, b_repr := no z_repr }
  have zd : mg "dict" = none := no z_dict
  obtain ⟨f0, fd0, m0, F0, q0⟩ := d0.ex
  obtain ⟨f1, fd1, m1, F1, q1⟩ := d1.ex
  obtain ⟨f2, fd2, m2, F2, q2⟩ := d2.ex
  obtain ⟨f3, fd3, m3, F3, q3⟩ := d3.ex
  obtain ⟨f4, fd4, m4, F4, q4⟩ := d4.ex
  obtain ⟨f5, fd5, m5, F5, q5⟩ := d5.ex
  obtain ⟨f6, fd6, m6, F6, q6⟩ := d6.ex
  obtain ⟨f7, fd7, m7, F7, q7⟩ := d7.ex
  obtain ⟨f8, fd8, m8, F8, q8⟩ := d8.ex
  obtain ⟨f9, fd9, m9, F9, q9⟩ := d9.ex
  obtain ⟨f10, fd10, m10, F10, q10⟩ := d10.ex
  obtain ⟨f11, fd11, m11, F11, q11⟩ := d11.ex
  obtain ⟨f12, fd12, m12, F12, q12⟩ := d12.ex
  obtain ⟨f13, fd13, m13, F13, q13⟩ := d13.ex
  obtain ⟨f14, fd14, m14, F14, q14⟩ := d14.ex
  obtain ⟨f15, fd15, m15, F15, q15⟩ := d15.ex
  obtain ⟨f16, fd16, m16, F16, q16⟩ := d16.ex
  obtain ⟨f17, fd17, m17, F17, q17⟩ := d17.ex
  obtain ⟨f18, fd18, m18, F18, q18⟩ := d18.ex
  obtain ⟨f19, fd19, m19, F19, q19⟩ := d19.ex
  obtain ⟨f20, fd20, m20, F20, q20⟩ := d20.ex
  obtain ⟨f21, fd21, m21, F21, q21⟩ := d21.ex
  obtain ⟨f22, fd22, m22, F22, q22⟩ := d22.ex
  obtain ⟨f23, fd23, m23, F23, q23⟩ := d23.ex
  obtain ⟨f24, fd24, m24, F24, q24⟩ := d24.ex
  obtain ⟨f25, fd25, m25, F25, q25⟩ := d25.ex
  obtain ⟨f26, fd26, m26, F26, q26⟩ := d26.ex
  obtain ⟨f27, fd27, m27, F27, q27⟩ := d27.ex
  obtain ⟨f28, fd28, m28, F28, q28⟩ := d28.ex
  obtain ⟨f29, fd29, m29, F29, q29⟩ := d29.ex
  obtain ⟨f30, fd30, m30, F30, q30⟩ := d30.ex
  obtain ⟨f31, fd31, m31, F31, q31⟩ := d31.ex
  obtain ⟨f32, fd32, m32, F32, q32⟩ := d32.ex
  obtain ⟨f33, fd33, m33, F33, q33⟩ := d33.ex
  obtain ⟨f34, fd34, m34, F34, q34⟩ := d34.ex
  obtain ⟨f35, fd35, m35, F35, q35⟩ := d35.ex
  obtain ⟨f36, fd36, m36, F36, q36⟩ := d36.ex
  obtain ⟨f37, fd37, m37, F37, q37⟩ := d37.ex
  obtain ⟨f38, fd38, m38, F38, q38⟩ := d38.ex
  obtain ⟨f39, fd39, m39, F39, q39⟩ := d39.ex
  obtain ⟨f40, fd40, m40, F40, q40⟩ := d40.ex
  obtain ⟨f41, fd41, m41, F41, q41⟩ := d41.ex
  obtain ⟨f42, fd42, m42, F42, q42⟩ := d42.ex
  obtain ⟨f43, fd43, m43, F43, q43⟩ := d43.ex
  obtain ⟨f44, fd44, m44, F44, q44⟩ := d44.ex
  obtain ⟨fdi, Fi⟩ := mi.ex
  obtain ⟨fdL, FL⟩ := mL.ex
  have e := hfa.symm.trans m44
  cases e
  obtain ⟨oc', od', kV', doc', pm', an', cdv', ct', osl', efd, _, _⟩ := F44.ex
  refine ⟨fd44, fun s v => by subst efd; exact .of_eq rfl, fun base _ _ => ?_⟩
  have L : LenC P w K mg base C := ⟨⟨fL, _, ok_lenB FL Tr B.c, B.ln, B.lf, FL.binds (ps := ["self"]) fun _ _ _ _ _ _ us hl => match us, hl with | [_], _ => rfl⟩⟩
  have c__law_pot := cal_of (ok_pot (P := P) (w := w) (base := base) F0 T0) m0 q0 (F0.binds (ps := ["script", "place"]) fun _ _ _ _ _ _ us hl => match us, hl with | [_, _], _ => rfl)
  have c__law_take := cal_of (ok_take (P := P) (w := w) (base := base) F1 T0) m1 q1 (F1.binds (ps := ["pot", "upto"]) fun _ _ _ _ _ _ us hl => match us, hl with | [_, _], _ => rfl)
  have c__law_of := cal_of (ok_of (P := P) (w := w) (base := base) F2 T0 c__law_take) m2 q2 (F2.binds (ps := ["pot", "some"]) fun _ _ _ _ _ _ us hl => match us, hl with | [_, _], _ => rfl)
  have c__law_cells := cal_of (ok_cells (P := P) (w := w) (base := base) F3 T0) m3 q3 (F3.binds (ps := ["script", "most"]) fun _ _ _ _ _ _ us hl => match us, hl with | [_, _], _ => rfl)
  have c__law_some := cal_of (ok_some (P := P) (w := w) (base := base) F4 T0 c__law_take) m4 q4 (F4.binds (ps := ["pot", "pool", "many"]) fun _ _ _ _ _ _ us hl => match us, hl with | [_, _, _], _ => rfl)
  have c__law_names := cal_of (ok_names (P := P) (w := w) (base := base) F5 T0 c__law_take c__law_of) m5 q5 (F5.binds (ps := ["pot", "many"]) fun _ _ _ _ _ _ us hl => match us, hl with | [_, _], _ => rfl)
  have c__law_links := cal_of (ok_links (P := P) (w := w) (base := base) F6 T0 Tv.b_enumerate c__law_take c__law_of c__law_some) m6 q6 (F6.binds (ps := ["pot", "names", "goal", "many", "window"]) fun _ _ _ _ _ _ us hl => match us, hl with | [_, _, _, _, _], _ => rfl)
  have c__law_way_home := cal_of (ok_way (P := P) (w := w) (base := base) F7 Tv.b_enumerate) m7 q7 (F7.binds (ps := ["own", "left", "name"]) fun _ _ _ _ _ _ us hl => match us, hl with | [_, _, _], _ => rfl)
  have c__law_filled := cal_of (ok_filledB (P := P) (w := w) (base := base) F8 T0 zd c__law_take c__law_of c__law_way_home) m8 q8 (F8.binds (ps := ["pot", "own", "most"]) fun _ _ _ _ _ _ us hl => match us, hl with | [_, _, _], _ => rfl)
  have c__law_book := cal_of (ok_book (P := P) (w := w) (base := base) F9 T0 c__law_take c__law_of c__law_names c__law_links) m9 q9 (F9.binds (ps := ["pot", "stations", "links", "window"]) fun _ _ _ _ _ _ us hl => match us, hl with | [_, _, _, _], _ => rfl)
  have c__law_flow_book := cal_of (ok_flowB (P := P) (w := w) (base := base) F10 T0 c__law_filled c__law_book) m10 q10 (F10.binds (ps := ["pot", "stations", "links", "window"]) fun _ _ _ _ _ _ us hl => match us, hl with | [_, _, _, _], _ => rfl)
  have c__law_any_book := cal_of (ok_any (P := P) (w := w) (base := base) F11 T0 c__law_take c__law_flow_book) m11 q11 (F11.binds (ps := ["pot", "stations", "links", "window"]) fun _ _ _ _ _ _ us hl => match us, hl with | [_, _, _, _], _ => rfl)
  have c__law_book_text := cal_of (ok_text (P := P) (w := w) (base := base) F12 Tv.b_str) m12 q12 (F12.binds (ps := ["own"]) fun _ _ _ _ _ _ us hl => match us, hl with | [_], _ => rfl)
  have c_is_integer := cal_of (ok_isInt (P := P) (w := w) (base := base) F13 Tv) m13 q13 (F13.binds (ps := ["value"]) fun _ _ _ _ _ _ us hl => match us, hl with | [_], _ => rfl)
  have c_is_between := cal_of (ok_bet (P := P) (w := w) (base := base) F14 Tv c_is_integer) m14 q14 (F14.binds (ps := ["value", "least", "most"]) fun _ _ _ _ _ _ us hl => match us, hl with | [_, _, _], _ => rfl)
  have c_is_name := cal_of (ok_name (P := P) (w := w) (base := base) F15 Tv) m15 q15 (F15.binds (ps := ["value"]) fun _ _ _ _ _ _ us hl => match us, hl with | [_], _ => rfl)
  have c_number_of := cal_of (ok_num (P := P) (w := w) (base := base) F16 Tv) m16 q16 (F16.binds (ps := ["word"]) fun _ _ _ _ _ _ us hl => match us, hl with | [_], _ => rfl)
  have c_values_of := cal_of (ok_vals (P := P) (w := w) (base := base) F17 Tv c_number_of) m17 q17 (F17.binds (ps := ["words", "names"]) fun _ _ _ _ _ _ us hl => match us, hl with | [_, _], _ => rfl)
  have c_is_station := cal_of (ok_station (P := P) (w := w) (base := base) F18 Tv c_is_name c_is_between) m18 q18 (F18.binds (ps := ["value", "goal", "stations"]) fun _ _ _ _ _ _ us hl => match us, hl with | [_, _, _], _ => rfl)
  have c_is_link := cal_of (ok_link (P := P) (w := w) (base := base) F19 Tv c_is_between) m19 q19 (F19.binds (ps := ["value", "window", "goal", "stations", "links"]) fun _ _ _ _ _ _ us hl => match us, hl with | [_, _, _, _, _], _ => rfl)
  have c_read_head := cal_of (ok_head (P := P) (w := w) (base := base) F20 Tr c_values_of c_is_between) m20 q20 (F20.binds (ps := ["lines"]) fun _ _ _ _ _ _ us hl => match us, hl with | [_], _ => rfl)
  have c_read_goal := cal_of (ok_goal (P := P) (w := w) (base := base) F21 Tr c_is_name) m21 q21 (F21.binds (ps := ["lines"]) fun _ _ _ _ _ _ us hl => match us, hl with | [_], _ => rfl)
  have c_read_stations := cal_of (ok_stations (P := P) (w := w) (base := base) F22 Tr c_values_of c_is_station) m22 q22 (F22.binds (ps := ["lines", "goal"]) fun _ _ _ _ _ _ us hl => match us, hl with | [_, _], _ => rfl)
  have c_read_links := cal_of (ok_rlinks (P := P) (w := w) (base := base) F23 Tr c_values_of c_is_link) m23 q23 (F23.binds (ps := ["lines", "window", "goal", "stations"]) fun _ _ _ _ _ _ us hl => match us, hl with | [_, _, _, _], _ => rfl)
  have c_intA := cal_of (ok_isIntA (P := P) (w := w) (base := base) F13 Tv) m13 q13 (F13.binds (ps := ["value"]) fun _ _ _ _ _ _ us hl => match us, hl with | [_], _ => rfl)
  have c_betA := cal_of (ok_betA (P := P) (w := w) (base := base) F14 Tv c_intA) m14 q14 (F14.binds (ps := ["value", "least", "most"]) fun _ _ _ _ _ _ us hl => match us, hl with | [_, _, _], _ => rfl)
  have c_is_row := cal_of (ok_row (P := P) (w := w) (base := base) F24 Tv c_betA) m24 q24 (F24.binds (ps := ["value", "many", "least", "most"]) fun _ _ _ _ _ _ us hl => match us, hl with | [_, _, _, _], _ => rfl)
  have c_is_ascending := cal_of (ok_ascI (P := P) (w := w) (base := base) F25 Tv) m25 q25 (F25.binds (ps := ["values"]) fun _ _ _ _ _ _ us hl => match us, hl with | [_], _ => rfl)
  have c_is_opens := cal_of (ok_opn (P := P) (w := w) (base := base) F26 Tv c_betA c_is_ascending) m26 q26 (F26.binds (ps := ["value", "many"]) fun _ _ _ _ _ _ us hl => match us, hl with | [_, _], _ => rfl)
  have c_is_tick := cal_of (ok_tick (P := P) (w := w) (base := base) F27 Tw B.c L c_is_row c_is_opens) m27 q27 (F27.binds (ps := ["book", "value"]) fun _ _ _ _ _ _ us hl => match us, hl with | [_, _], _ => rfl)
  have c_left_at_first := cal_of (ok_left0 (P := P) (w := w) (base := base) F28 B.c) m28 q28 (F28.binds (ps := ["book"]) fun _ _ _ _ _ _ us hl => match us, hl with | [_], _ => rfl)
  have c_left_behind := cal_of (ok_left1 (P := P) (w := w) (base := base) F29 Tv) m29 q29 (F29.binds (ps := ["left", "tick"]) fun _ _ _ _ _ _ us hl => match us, hl with | [_, _], _ => rfl)
  have c_first_bad := cal_of (ok_first (P := P) (w := w) (base := base) F30 Tw B.c c_is_tick c_left_at_first c_left_behind) m30 q30 (F30.binds (ps := ["book", "value"]) fun _ _ _ _ _ _ us hl => match us, hl with | [_, _], _ => rfl)
  have c_check_ticks := cal_of (ok_checkT (P := P) (w := w) (base := base) F31  c_first_bad) m31 q31 (F31.binds (ps := ["book", "ticks"]) fun _ _ _ _ _ _ us hl => match us, hl with | [_, _], _ => rfl)
  have c__law_put_row := cal_of (ok_putrow (P := P) (w := w) (base := base) F32 T0 c__law_take) m32 q32 (F32.binds (ps := ["pot", "put", "window", "way"]) fun _ _ _ _ _ _ us hl => match us, hl with | [_, _, _, _], _ => rfl)
  have c__law_open_ticks := cal_of (ok_open (P := P) (w := w) (base := base) F33 T0 c__law_take c__law_some) m33 q33 (F33.binds (ps := ["pot", "often", "window", "way"]) fun _ _ _ _ _ _ us hl => match us, hl with | [_, _, _, _], _ => rfl)
  have c__law_window := cal_of (ok_window (P := P) (w := w) (base := base) F34 Tv c__law_take c__law_put_row c__law_open_ticks) m34 q34 (F34.binds (ps := ["pot", "own"]) fun _ _ _ _ _ _ us hl => match us, hl with | [_, _], _ => rfl)
  have c__law_weather := cal_of (ok_weather (P := P) (w := w) (base := base) F35 Tv c__law_take c__law_of c__law_window) m35 q35 (F35.binds (ps := ["pot", "own", "windows"]) fun _ _ _ _ _ _ us hl => match us, hl with | [_, _, _], _ => rfl)
  have c__law_is_int := cal_of (ok_lint (P := P) (w := w) (base := base) F36 Tv) m36 q36 (F36.binds (ps := ["value", "least", "most"]) fun _ _ _ _ _ _ us hl => match us, hl with | [_, _, _], _ => rfl)
  have c__law_is_own_tick := cal_of (ok_ltick (P := P) (w := w) (base := base) F37 Tv c__law_is_int) m37 q37 (F37.binds (ps := ["own", "value"]) fun _ _ _ _ _ _ us hl => match us, hl with | [_, _], _ => rfl)
  have c__law_can_be := cal_of (ok_can (P := P) (w := w) (base := base) F38 Tv) m38 q38 (F38.binds (ps := ["own", "window"]) fun _ _ _ _ _ _ us hl => match us, hl with | [_, _], _ => rfl)
  have c__law_first_wrong := cal_of (ok_wrong (P := P) (w := w) (base := base) F39 Tv c__law_is_own_tick c__law_can_be) m39 q39 (F39.binds (ps := ["own", "ticks"]) fun _ _ _ _ _ _ us hl => match us, hl with | [_, _], _ => rfl)
  have c__law_bent_tick := cal_of (ok_bent (P := P) (w := w) (base := base) F40 Tv c__law_take c__law_of) m40 q40 (F40.binds (ps := ["pot", "own", "tick"]) fun _ _ _ _ _ _ us hl => match us, hl with | [_, _, _], _ => rfl)
  have FB := ok_init (P := P) (w := w) (base := base) Fi Tr B.c c_read_head c_read_goal c_read_stations c_read_links
  have bB := Fi.binds (ps := ["self", "text"]) fun _ _ _ _ _ _ us hl => match us, hl with | [_, _], _ => rfl
  have w_windows_in : KwC P w K mg base 7 "windows_in" ["book", "ticks"] ["ticks", "book"] (spWins K C) gK2 gK2 := ⟨⟨f41, fd41, ok_wins F41 Tv B.c c_check_ticks, m41, q41, kb_windows_in F41⟩⟩
  have w_first_bad : KwC P w K mg base 5 "first_bad" ["book", "value"] ["value", "book"] (spFirst K C) gK2 gK2 := ⟨⟨f30, fd30, ok_first F30 Tw B.c c_is_tick c_left_at_first c_left_behind, m30, q30, kb_first_bad F30⟩⟩
  have b42 := F42.binds (ps := ["own", "book", "ticks"]) fun _ _ _ _ _ _ us hl => match us, hl with | [_, _, _], _ => rfl
  have g42 : CalG P w K mg base CX0 8 "_law_are_windows_right" (spWR K C) := ⟨⟨f42, fd42, _, ok_wr F42 Ts c_first_bad w_windows_in, m42, q42, b42⟩⟩
  have b43 := F43.binds (ps := ["pot"]) fun _ _ _ _ _ _ us hl => match us, hl with | [_], _ => rfl
  have g43 : CalG P w K mg base CX0 9 "_law_right" (spRight K) := ⟨⟨f43, fd43, _, ok_right F43 Ts c__law_take c__law_any_book c__law_book_text c__law_weather c__law_bent_tick c_is_tick c__law_is_own_tick c_first_bad c__law_first_wrong w_first_bad g42 B.mks FB B.g bB, m43, q43, b43⟩⟩
  exact ok_law F44 Tv c__law_pot c__law_cells g43
end
end DN

open PySem PySem.W PyProof.Rows
open_top head for PySem.Challenge.rw_downhillnet_k04_whole_which_ticks_keep_a
open PySem PySem.W PyProof.Rows
set_option maxRecDepth 100000 in
set_option maxHeartbeats 8000000 in
theorem PySem.Challenge.cw_downhillnet_k04_whole_which_ticks_keep_a_holds : PySem.Challenge.rw_downhillnet_k04_whole_which_ticks_keep_a.Holds :=
  head (by
  k_fill
  letI : DN.Tb := ⟨[], false⟩
  refine DN.walkG (l := PySem.Challenge.rw_downhillnet_k04_whole_which_ticks_keep_a) (n := 63) (k := 10) (x := "script") (sp := fun w => DN.spLaw _) rfl (by decide) rfl ⟨rfl, by decide, by decide⟩ (fun w h Y => PySem.W.kIn_of Y) ?F (fun _ _ a ns hl hS => ⟨a, ns, rfl, hS, hl, DN.potS_off, fun _ => rfl⟩)
  case F =>
    intro w mg fa h KX G hmg
    exact DN.all_mk KX G hmg
      (DN.book_of KX G (by k_is) (by k_is) (by k_is) (by k_is) (by k_is) (by k_is) (by k_is) (by k_is) (by k_is) (by k_is) (by k_is) (by k_is) (by k_is) (by k_is) (by k_is) (by k_is) (by k_is) (by k_is))
      (DN.meth_of (by k_is) (by k_is) (by k_is))
      (DN.meth_of (by k_is) (by k_is) (by k_is))
      (DN.con_of (x := "HEAD") KX G (by k_is) (by exact rfl))
      (DN.head_of (by k_is) (DN.pair_of (by k_is) (by exact ⟨_, rfl⟩) (by exact ⟨_, rfl⟩)) (DN.pair_of (by k_is) (by exact ⟨_, rfl⟩) (by exact ⟨_, rfl⟩)) (DN.pair_of (by k_is) (by exact ⟨_, rfl⟩) (by exact ⟨_, rfl⟩)))
      (DN.con_of (x := "LETTERS") (v := .str "abcdefghijklmnopqrstuvwxyz") KX G (by k_is) (by exact DN.relS (by decide +kernel)))
      (DN.con_of (x := "FIGURES") (v := .str "0123456789") KX G (by k_is) (by exact DN.relS (by decide +kernel)))
      (DN.con_of (x := "LONGEST_NAME") (v := .int 8) KX G (by k_is) (by exact ⟨_, rfl⟩))
      (DN.con_of (x := "LONGEST_NUMBER") (v := .int 9) KX G (by k_is) (by exact ⟨_, rfl⟩))
      (DN.con_of (x := "MOST_STATIONS") (v := .int 20) KX G (by k_is) (by exact ⟨_, rfl⟩))
      (DN.con_of (x := "MOST_LEVEL") (v := .int 300000000) KX G (by k_is) (by exact ⟨_, rfl⟩))
      (DN.con_of (x := "MOST_PUT") (v := .int 1000000) KX G (by k_is) (by exact ⟨_, rfl⟩))
      (DN.con_of (x := "MOST_LINKS") (v := .int 60) KX G (by k_is) (by exact ⟨_, rfl⟩))
      (DN.con_of (x := "MOST_ROOM") (v := .int 1000) KX G (by k_is) (by exact ⟨_, rfl⟩))
      (DN.con_of (x := "MOST_TICKS") (v := .int 10000) KX G (by k_is) (by exact ⟨_, rfl⟩))
      (DN.con_of (x := "MOST_PUT_IN") (v := .int 1000000) KX G (by k_is) (by exact ⟨_, rfl⟩))
      (DN.def_of (x := "_law_pot") KX G (by k_is) (by k_is) (by k_is) (by k_is))
      (DN.def_of (x := "_law_take") KX G (by k_is) (by k_is) (by k_is) (by k_is))
      (DN.def_of (x := "_law_of") KX G (by k_is) (by k_is) (by k_is) (by k_is))
      (DN.def_of (x := "_law_cells") KX G (by k_is) (by k_is) (by k_is) (by k_is))
      (DN.def_of (x := "_law_some") KX G (by k_is) (by k_is) (by k_is) (by k_is))
      (DN.def_of (x := "_law_names") KX G (by k_is) (by k_is) (by k_is) (by k_is))
      (DN.def_of (x := "_law_links") KX G (by k_is) (by k_is) (by k_is) (by k_is))
      (DN.def_of (x := "_law_way_home") KX G (by k_is) (by k_is) (by k_is) (by k_is))
      (DN.def_of (x := "_law_filled") KX G (by k_is) (by k_is) (by k_is) (by k_is))
      (DN.def_of (x := "_law_book") KX G (by k_is) (by k_is) (by k_is) (by k_is))
      (DN.def_of (x := "_law_flow_book") KX G (by k_is) (by k_is) (by k_is) (by k_is))
      (DN.def_of (x := "_law_any_book") KX G (by k_is) (by k_is) (by k_is) (by k_is))
      (DN.def_of (x := "_law_book_text") KX G (by k_is) (by k_is) (by k_is) (by k_is))
      (DN.def_of (x := "is_integer") KX G (by k_is) (by k_is) (by k_is) (by k_is))
      (DN.def_of (x := "is_between") KX G (by k_is) (by k_is) (by k_is) (by k_is))
      (DN.def_of (x := "is_name") KX G (by k_is) (by k_is) (by k_is) (by k_is))
      (DN.def_of (x := "number_of") KX G (by k_is) (by k_is) (by k_is) (by k_is))
      (DN.def_of (x := "values_of") KX G (by k_is) (by k_is) (by k_is) (by k_is))
      (DN.def_of (x := "is_station") KX G (by k_is) (by k_is) (by k_is) (by k_is))
      (DN.def_of (x := "is_link") KX G (by k_is) (by k_is) (by k_is) (by k_is))
      (DN.def_of (x := "read_head") KX G (by k_is) (by k_is) (by k_is) (by k_is))
      (DN.def_of (x := "read_goal") KX G (by k_is) (by k_is) (by k_is) (by k_is))
      (DN.def_of (x := "read_stations") KX G (by k_is) (by k_is) (by k_is) (by k_is))
      (DN.def_of (x := "read_links") KX G (by k_is) (by k_is) (by k_is) (by k_is))
      (DN.def_of (x := "is_row") KX G (by k_is) (by k_is) (by k_is) (by k_is))
      (DN.def_of (x := "is_ascending") KX G (by k_is) (by k_is) (by k_is) (by k_is))
      (DN.def_of (x := "is_opens") KX G (by k_is) (by k_is) (by k_is) (by k_is))
      (DN.def_of (x := "is_tick") KX G (by k_is) (by k_is) (by k_is) (by k_is))
      (DN.def_of (x := "left_at_first") KX G (by k_is) (by k_is) (by k_is) (by k_is))
      (DN.def_of (x := "left_behind") KX G (by k_is) (by k_is) (by k_is) (by k_is))
      (DN.def_of (x := "first_bad") KX G (by k_is) (by k_is) (by k_is) (by k_is))
      (DN.def_of (x := "check_ticks") KX G (by k_is) (by k_is) (by k_is) (by k_is))
      (DN.def_of (x := "_law_put_row") KX G (by k_is) (by k_is) (by k_is) (by k_is))
      (DN.def_of (x := "_law_open_ticks") KX G (by k_is) (by k_is) (by k_is) (by k_is))
      (DN.def_of (x := "_law_window") KX G (by k_is) (by k_is) (by k_is) (by k_is))
      (DN.def_of (x := "_law_weather") KX G (by k_is) (by k_is) (by k_is) (by k_is))
      (DN.def_of (x := "_law_is_int") KX G (by k_is) (by k_is) (by k_is) (by k_is))
      (DN.def_of (x := "_law_is_own_tick") KX G (by k_is) (by k_is) (by k_is) (by k_is))
      (DN.def_of (x := "_law_can_be") KX G (by k_is) (by k_is) (by k_is) (by k_is))
      (DN.def_of (x := "_law_first_wrong") KX G (by k_is) (by k_is) (by k_is) (by k_is))
      (DN.def_of (x := "_law_bent_tick") KX G (by k_is) (by k_is) (by k_is) (by k_is))
      (DN.def_of (x := "windows_in") KX G (by k_is) (by k_is) (by k_is) (by k_is))
      (DN.def_of (x := "_law_are_windows_right") KX G (by k_is) (by k_is) (by k_is) (by k_is))
      (DN.def_of (x := "_law_right") KX G (by k_is) (by k_is) (by k_is) (by k_is))
      (DN.def_of (x := "law") KX G (by k_is) (by k_is) (by k_is) (by k_is))
      (by k_is) (by k_is) (by k_is) (by k_is) (by k_is) (by k_is) (by k_is) (by k_is) (by k_is) (by k_is) (by k_is) (by k_is) (by k_is) (by k_is) (by k_is) (by k_is) (by k_is))

