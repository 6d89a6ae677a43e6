import PyProof.Rows.All
import Wide.All
import OpenK.AllK
import Wide.FinOn
import HandS.ForMost
import HandS.TupAny
import HandS.TupMul
import KE.GoesMore
import KE.GoesEnum
import HandS.More
import HandS.Conv
import HandS.Style
import HandS.Lambda
import PyProof.WalksMore
import PyProof.WalkInts
import HandS.Strs
import HandS.Zip
import HandS.IsInst
import HandS.EndBits
import HandS.HeadHook2
import HandS.HeadEnd
import HandS.Head2
import PyProof.Rows.RuleDivmod
import HandS.DictComp
import PyProof.SeqIndex
import PySem.Challenge.RW_hookedcords_k27_whole_leftovers_of_great
set_option Elab.async false
section
set_option linter.all false
set_option maxRecDepth 100000
namespace DL
open PySem PySem.Spec PyProof.Rows L2
abbrev D := PyData
/-! ### runs: what comes, a draw below n, or no word -/
inductive Tr (α : Type) : Type
  | ret (a : α)
  | fail
  | draw (n : Nat) (k : Nat → Tr α)
namespace Tr
def bind {α β : Type} : Tr α → (α → Tr β) → Tr β
  | .ret a, f => f a
  | .fail, _ => .fail
  | .draw n k, f => .draw n fun i => (k i).bind f
/-- P of every end, with what is left of b draws -/
def All {α : Type} : Tr α → Nat → (α → Nat → Prop) → Prop
  | .ret a, b, P => P a b
  | .fail, _, _ => False
  | .draw n k, b, P => ∃ c, b = c + 1 ∧ ∀ i, i < n → (k i).All c P
theorem All_bind {α β : Type} (t : Tr α) (f : α → Tr β) (P : β → Nat → Prop) : ∀ b, (t.bind f).All b P ↔ t.All b fun a c => (f a).All c P := by
  induction t with
  | ret a => intro b; exact Iff.rfl
  | fail => intro b; exact Iff.rfl
  | draw n k ih =>
    intro b
    constructor
    · rintro ⟨c, e, h⟩
      exact ⟨c, e, fun i hi => (ih i c).mp (h i hi)⟩
    · rintro ⟨c, e, h⟩
      exact ⟨c, e, fun i hi => (ih i c).mpr (h i hi)⟩
theorem All_mono {α : Type} {P P' : α → Nat → Prop} : ∀ {t : Tr α} {b : Nat}, t.All b P → (∀ a c, P a c → P' a c) → t.All b P'
  | .ret a, b, h, k => k a b h
  | .fail, _, h, _ => h
  | .draw n f, b, ⟨c, e, h⟩, k => ⟨c, e, fun i hi => All_mono (h i hi) k⟩
def ofOpt {α : Type} : Option α → Tr α
  | some a => .ret a
  | none => .fail
end Tr
/-! ### data in the heap -/
section
variable (K : PySem.W.Frag)
/-- the written tuples -/
def TK (a : Addr) (xs : List V) : Prop := ∃ (o : Obj) (its : Array Value) (n : Nat), K.lookup a = some o ∧ o.cls = .type "tuple" ∧ o.dict = none ∧ o.data = .seq its n ∧ its.size ≤ sizeLine ∧ Vals xs its.toList
/-- the written lists -/
def LK (a : Addr) (xs : List V) : Prop := ∃ (o : Obj) (its : Array Value) (n : Nat), K.lookup a = some o ∧ o.cls = .type "list" ∧ o.dict = none ∧ o.data = .seq its n ∧ its.size ≤ sizeLine ∧ Vals xs its.toList
/-- a list that nobody changes -/
def SqS (N : Addr → Prop) (H : Hp) (a : Addr) (xs : List V) : Prop := (¬ N a ∧ ∃ o, H a = some (.frz o (.lst xs))) ∨ LK K a xs
/-- the datum that stands for such a list -/
def scrD (ds : List D) : D := .dict [(.none, .list ds)]
def keyD : Key → D
  | .inl i => .int i
  | .inr x => .str x
/-- a tuple known by its one object, which has no dict of its own -/
def TupO (H : Hp) (a : Addr) (xs : List V) : Prop := ∃ o : Obj, H a = some (.frz o (.tup xs)) ∧ o.dict = none
mutual
/-- v reads as d; no tracked address within is one of N -/
inductive In (N : Addr → Prop) (H : Hp) : V → D → Prop
  | non : In N H .non .none
  | bl (b : Bool) : In N H (.bl b) (.bool b)
  | int (i : Int) : In N H (.int i) (.int i)
  | str (x : Str) : In N H (.str x) (.str x)
  | lst {a : Addr} {xs : List V} {ds : List D} : ¬ N a → H a = some (.lst xs) → InAll N H xs ds → In N H (.ref a) (.list ds)
  | tup {a : Addr} {xs : List V} {ds : List D} : ¬ N a → TupO H a xs → InAll N H xs ds → In N H (.ref a) (.tuple ds)
  | tupK {a : Addr} {xs : List V} {ds : List D} : TK K a xs → InAll N H xs ds → In N H (.ref a) (.tuple ds)
  | scr {a : Addr} {xs : List V} {ds : List D} : SqS K N H a xs → InAll N H xs ds → In N H (.ref a) (scrD ds)
  | dk {a : Addr} {kvs : List (Key × V)} {es : List (D × D)} : ¬ N a → H a = some (.dK kvs) → InKV N H kvs es → In N H (.ref a) (.dict es)
  | dt {a : Addr} {kvs : List (List Key × V)} {es : List (D × D)} : ¬ N a → H a = some (.dT kvs) → InTV N H kvs es → In N H (.ref a) (.dict es)
inductive InAll (N : Addr → Prop) (H : Hp) : List V → List D → Prop
  | nil : InAll N H [] []
  | cons {v : V} {vs : List V} {d : D} {ds : List D} : In N H v d → InAll N H vs ds → InAll N H (v :: vs) (d :: ds)
inductive InKV (N : Addr → Prop) (H : Hp) : List (Key × V) → List (D × D) → Prop
  | nil : InKV N H [] []
  | cons {k : Key} {v : V} {vs : List (Key × V)} {d : D} {ds : List (D × D)} : In N H v d → InKV N H vs ds → InKV N H ((k, v) :: vs) ((keyD k, d) :: ds)
inductive InTV (N : Addr → Prop) (H : Hp) : List (List Key × V) → List (D × D) → Prop
  | nil : InTV N H [] []
  | cons {k : List Key} {v : V} {vs : List (List Key × V)} {d : D} {ds : List (D × D)} : In N H v d → InTV N H vs ds → InTV N H ((k, v) :: vs) ((.tuple (k.map keyD), d) :: ds)
end
end
section
variable {K : PySem.W.Frag} {N N' : Addr → Prop} {H H' : Hp}
theorem SqS.mono {N N' : Addr → Prop} {H H' : Hp} {a : Addr} {xs : List V} (hn : ∀ b, N' b → N b ∨ H b = none) (hk : ∀ b o, H b = some o → ¬ N b → H' b = some o) (h : SqS K N H a xs) : SqS K N' H' a xs := by
  rcases h with ⟨n, o, r⟩ | h
  · exact .inl ⟨fun z => (hn _ z).elim n fun e => by (rw [e] at r; cases r), o, hk _ _ r n⟩
  · exact .inr h
theorem SqS.seq {N : Addr → Prop} {H : Hp} {a : Addr} {xs : List V} (h : SqS K N H a xs) : SqL K H a xs := by
  rcases h with ⟨n, o, r⟩ | h
  · exact .inl (.inr ⟨o, r⟩)
  · exact .inr h
mutual
theorem In.mono (hn : ∀ b, N' b → N b ∨ H b = none) (hk : ∀ b o, H b = some o → ¬ N b → H' b = some o) : ∀ {v : V} {d : D}, In K N H v d → In K N' H' v d
  | _, _, .non => .non
  | _, _, .bl b => .bl b
  | _, _, .int i => .int i
  | _, _, .str x => .str x
  | _, _, .lst n r h => .lst (fun z => (hn _ z).elim n fun e => by rw [e] at r; cases r) (hk _ _ r n) (InAll.mono hn hk h)
  | _, _, .tup n r h => .tup (fun z => (hn _ z).elim n fun e => by
      obtain ⟨o, r, _⟩ := r
      rw [e] at r; cases r) (let ⟨o, r, z⟩ := r; ⟨o, hk _ _ r n, z⟩) (InAll.mono hn hk h)
  | _, _, .tupK r h => .tupK r (InAll.mono hn hk h)
  | _, _, .scr r h => .scr (SqS.mono hn hk r) (InAll.mono hn hk h)
  | _, _, .dk n r h => .dk (fun z => (hn _ z).elim n fun e => by rw [e] at r; cases r) (hk _ _ r n) (InKV.mono hn hk h)
  | _, _, .dt n r h => .dt (fun z => (hn _ z).elim n fun e => by rw [e] at r; cases r) (hk _ _ r n) (InTV.mono hn hk h)
theorem InAll.mono (hn : ∀ b, N' b → N b ∨ H b = none) (hk : ∀ b o, H b = some o → ¬ N b → H' b = some o) : ∀ {vs : List V} {ds : List D}, InAll K N H vs ds → InAll K N' H' vs ds
  | _, _, .nil => .nil
  | _, _, .cons h t => .cons (In.mono hn hk h) (InAll.mono hn hk t)
theorem InKV.mono (hn : ∀ b, N' b → N b ∨ H b = none) (hk : ∀ b o, H b = some o → ¬ N b → H' b = some o) : ∀ {vs : List (Key × V)} {ds : List (D × D)}, InKV K N H vs ds → InKV K N' H' vs ds
  | _, _, .nil => .nil
  | _, _, .cons h t => .cons (In.mono hn hk h) (InKV.mono hn hk t)
theorem InTV.mono (hn : ∀ b, N' b → N b ∨ H b = none) (hk : ∀ b o, H b = some o → ¬ N b → H' b = some o) : ∀ {vs : List (List Key × V)} {ds : List (D × D)}, InTV K N H vs ds → InTV K N' H' vs ds
  | _, _, .nil => .nil
  | _, _, .cons h t => .cons (In.mono hn hk h) (InTV.mono hn hk t)
end
theorem TK.seq {a : Addr} {xs : List V} (h : TK K a xs) : SqT K H a xs :=
  let ⟨o, its, n, h1, h2, _, h3⟩ := h; .inr ⟨o, its, n, h1, h2, h3⟩
theorem TupO.seq {a : Addr} {xs : List V} (h : TupO H a xs) : SqT K H a xs := let ⟨o, h, _⟩ := h; .inl (.inr ⟨o, h⟩)
theorem InAll.length : ∀ {vs : List V} {ds : List D}, InAll K N H vs ds → vs.length = ds.length
  | _, _, .nil => rfl
  | _, _, .cons _ t => congrArg (· + 1) t.length
theorem InAll.get : ∀ {vs : List V} {ds : List D} {i : Nat} {v : V}, InAll K N H vs ds → vs[i]? = some v → ∃ d, ds[i]? = some d ∧ In K N H v d
  | _, _, _, _, .nil, e => by simp at e
  | _, _, 0, _, .cons h _, e => by simp at e; subst e; exact ⟨_, rfl, h⟩
  | _, _, i + 1, _, .cons _ t, e => by
    obtain ⟨d, e1, h1⟩ := InAll.get (i := i) t (by simpa using e)
    exact ⟨d, by simpa using e1, h1⟩
theorem InAll.get' : ∀ {vs : List V} {ds : List D} {i : Nat} {d : D}, InAll K N H vs ds → ds[i]? = some d → ∃ v, vs[i]? = some v ∧ In K N H v d
  | _, _, _, _, .nil, e => by simp at e
  | _, _, 0, _, .cons h _, e => by simp at e; subst e; exact ⟨_, rfl, h⟩
  | _, _, i + 1, _, .cons _ t, e => by
    obtain ⟨d, e1, h1⟩ := InAll.get' (i := i) t (by simpa using e)
    exact ⟨d, by simpa using e1, h1⟩
theorem InAll.append : ∀ {vs ws : List V} {ds es : List D}, InAll K N H vs ds → InAll K N H ws es → InAll K N H (vs ++ ws) (ds ++ es)
  | _, _, _, _, .nil, k => k
  | _, _, _, _, .cons h t, k => .cons h (t.append k)
theorem InAll.take : ∀ {vs : List V} {ds : List D} (n : Nat), InAll K N H vs ds → InAll K N H (vs.take n) (ds.take n)
  | _, _, 0, _ => by simpa using InAll.nil
  | _, _, _ + 1, .nil => .nil
  | _, _, n + 1, .cons h t => .cons h (t.take n)
theorem InAll.drop : ∀ {vs : List V} {ds : List D} (n : Nat), InAll K N H vs ds → InAll K N H (vs.drop n) (ds.drop n)
  | _, _, 0, h => h
  | _, _, _ + 1, .nil => .nil
  | _, _, n + 1, .cons _ t => t.drop n
theorem InAll.set : ∀ {vs : List V} {ds : List D} {v : V} {d : D} (i : Nat), InAll K N H vs ds → In K N H v d → InAll K N H (vs.set i v) (ds.set i d)
  | _, _, _, _, _, .nil, _ => .nil
  | _, _, _, _, 0, .cons _ t, k => .cons k t
  | _, _, _, _, i + 1, .cons h t, k => .cons h (t.set i k)
theorem In.list_inv {v : V} {ds : List D} (h : In K N H v (.list ds)) : ∃ a xs, v = .ref a ∧ H a = some (.lst xs) ∧ InAll K N H xs ds := by
  cases h with
  | lst n r h => exact ⟨_, _, rfl, r, h⟩
theorem In.tuple_inv {v : V} {ds : List D} (h : In K N H v (.tuple ds)) : ∃ a xs, v = .ref a ∧ SqT K H a xs ∧ InAll K N H xs ds := by
  cases h with
  | tup n r h => exact ⟨_, _, rfl, r.seq, h⟩
  | tupK r h => exact ⟨_, _, rfl, r.seq, h⟩
/-- its object is there and has no dict -/
theorem In.tuple_inv2 {v : V} {ds : List D} (h : In K N H v (.tuple ds)) : ∃ a xs, v = .ref a ∧ (TupO H a xs ∨ TK K a xs) ∧ InAll K N H xs ds := by
  cases h with
  | tup n r h => exact ⟨_, _, rfl, .inl r, h⟩
  | tupK r h => exact ⟨_, _, rfl, .inr r, h⟩
theorem tuple_obj {X : Cx} {pins : List (Addr × Obj)} {σ : List (Option V)} {H : Hp} {s : Shared} {a : Addr} {xs : List V} (I : Inv X pins σ H s) (h : TupO H a xs ∨ TK X.K a xs) : ∃ o, s.heap.get? a = some o ∧ o.cls = .type "tuple" ∧ o.dict = none := by
  rcases h with ⟨o, h, z⟩ | ⟨o, its, n, h, c, z, _⟩
  · obtain ⟨g, _, _, _, t, gt, ct, _⟩ := I.hok _ _ h
    rw [g] at gt
    cases gt
    exact ⟨o, g, ct, z⟩
  · exact ⟨o, I.kIn a o h, c, z⟩
theorem InKV.key : ∀ {kvs : List (Key × V)} {es : List (D × D)}, InKV K N H kvs es → ∀ p ∈ es, p.1 ≠ .none
  | _, _, .nil, p, h => nomatch h
  | _, _, @InKV.cons _ _ _ k v vs d ds h t, p, hp => by
    rcases List.mem_cons.mp hp with rfl | hp
    · cases k <;> (intro z; cases z)
    · exact InKV.key t p hp
theorem InTV.key : ∀ {kvs : List (List Key × V)} {es : List (D × D)}, InTV K N H kvs es → ∀ p ∈ es, p.1 ≠ .none
  | _, _, .nil, p, h => nomatch h
  | _, _, @InTV.cons _ _ _ k v vs d ds h t, p, hp => by
    rcases List.mem_cons.mp hp with rfl | hp
    · intro z; cases z
    · exact InTV.key t p hp
theorem In.scr_inv {v : V} {ds : List D} (h : In K N H v (scrD ds)) : (∃ a xs, v = .ref a ∧ SqS K N H a xs ∧ InAll K N H xs ds) := by
  generalize e : scrD ds = d at h
  cases h <;> first | (cases e; done) | skip
  · cases e
    exact ⟨_, _, rfl, by assumption, by assumption⟩
  · rename_i h3
    unfold scrD at e
    injection e with e
    subst e
    exact absurd rfl (InKV.key h3 _ (List.mem_cons_self ..))
  · rename_i h3
    unfold scrD at e
    injection e with e
    subst e
    exact absurd rfl (InTV.key h3 _ (List.mem_cons_self ..))
theorem In.int_inv {v : V} {i : Int} (h : In K N H v (.int i)) : v = .int i := by cases h; rfl
theorem In.str_inv {v : V} {x : Str} (h : In K N H v (.str x)) : v = .str x := by cases h; rfl
theorem In.bool_inv {v : V} {b : Bool} (h : In K N H v (.bool b)) : v = .bl b := by cases h; rfl
theorem In.none_inv {v : V} (h : In K N H v .none) : v = .non := by cases h; rfl
end
end DL
end
section
set_option linter.all false
set_option maxRecDepth 100000
namespace DL
open PySem PySem.Spec PyProof.Rows L2
/-! ### the drawing state -/
structure Om where
  a : Addr
  c : Addr
  g : Addr
def OmAt : Option Om → Addr → Prop
  | none, _ => False
  | some w, x => x = w.a ∨ x = w.c ∨ x = w.g
def Orc (w : Om) (b : Nat) (H : Hp) : Prop := ∃ (cells great : List Int) (n : Int),
  H w.a = some (.dK [(.inr "cells", .ref w.c), (.inr "great", .ref w.g), (.inr "spot", .int n)]) ∧ H w.c = some (.lst (cells.map V.int)) ∧ H w.g = some (.lst (great.map V.int)) ∧
  cells.length = 64 ∧ (∀ x ∈ cells, 0 ≤ x ∧ x < 2147483647) ∧ great.length ≤ 63 ∧ (∀ x ∈ great, 0 ≤ x ∧ x.natAbs < 2 ^ 1048577) ∧ 0 ≤ n ∧ n + b ≤ 2 ^ 40 ∧ w.c ≠ w.g
def OrcO : Option Om → Nat → Hp → Prop
  | none, _, _ => True
  | some w, b, H => Orc w b H
theorem OrcO.there {ω : Option Om} {b : Nat} {H : Hp} (h : OrcO ω b H) {x : Addr} (hx : OmAt ω x) : H x ≠ none := by
  cases ω with
  | none => exact hx.elim
  | some w =>
    obtain ⟨cells, great, n, h1, h2, h3, _⟩ := h
    rcases hx with rfl | rfl | rfl
    · rw [h1]; exact fun z => nomatch z
    · rw [h2]; exact fun z => nomatch z
    · rw [h3]; exact fun z => nomatch z
/-- all but the drawing state's objects stay -/
def Keep (ω : Option Om) (H H' : Hp) : Prop := ∀ x o, H x = some o → ¬ OmAt ω x → H' x = some o
theorem Keep.refl {ω : Option Om} {H : Hp} : Keep ω H H := fun _ _ e _ => e
theorem Keep.trans {ω : Option Om} {H H1 H2 : Hp} (a : Keep ω H H1) (b : Keep ω H1 H2) : Keep ω H H2 := fun x o e n => b x o (a x o e n) n
theorem Keep.of {ω : Option Om} {H H' : Hp} (s : Same H H') : Keep ω H H' := fun x o e _ => s x o e
theorem same_new {H : Hp} {p : Addr} {o : HO} (h : H p = none) : Same H (upd H p o) := fun b x e => by
  rw [upd_ne (ne_of_none e h)]
  exact e
theorem OrcO.same {ω : Option Om} {b : Nat} {H H' : Hp} (s : Same H H') (h : OrcO ω b H) : OrcO ω b H' := by
  cases ω with
  | none => trivial
  | some w =>
    obtain ⟨cells, great, n, h1, h2, h3, h4⟩ := h
    exact ⟨cells, great, n, s _ _ h1, s _ _ h2, s _ _ h3, h4⟩
/-! ### slots -/
inductive Slot where
  | val (d : D)
  | own (d : D)
  | orc
abbrev Ev := List (Option Slot)
section
variable (K : PySem.W.Frag)
def addN (N : Addr → Prop) (p : Addr) : Addr → Prop := fun x => N x ∨ x = p
def OwnAt (N : Addr → Prop) (H : Hp) (a : Addr) : D → Prop
  | .list ds => ∃ xs, H a = some (.lst xs) ∧ InAll K N H xs ds
  | .dict es => ∃ kvs, H a = some (.dK kvs) ∧ InKV K N H kvs es
  | _ => False
def InB (ω : Option Om) (N : Addr → Prop) (H : Hp) (v : V) (d : D) : Prop := In K N H v d ∨ ∃ a, v = .ref a ∧ ¬ OmAt ω a ∧ OwnAt K N H a d
def SlotR (ω : Option Om) (N : Addr → Prop) (E H : Hp) : Slot → V → Prop
  | .val d, v => In K N H v d
  | .own d, v => ∃ a, v = .ref a ∧ N a ∧ ¬ OmAt ω a ∧ E a = none ∧ OwnAt K N H a d
  | .orc, v => ∃ w, ω = some w ∧ v = .ref w.a
/-- the frame's data: E the heap at the def's entry -/
structure RepE (ω : Option Om) (N : Addr → Prop) (E H : Hp) (b : Nat) (env : Ev) (σ : L2.St) : Prop where
  len : σ.length = env.length
  slot : ∀ (i : Nat) (s : Slot), env[i]? = some (some s) → ∃ v, σ[i]? = some (some v) ∧ SlotR K ω N E H s v
  sep : ∀ (i j : Nat) (di dj : D) (a : Addr), i ≠ j → env[i]? = some (some (.own di)) → env[j]? = some (some (.own dj)) → σ[i]? = some (some (.ref a)) → σ[j]? = some (some (.ref a)) → False
  dom : ∀ x, N x → H x ≠ none
  om : ∀ x, OmAt ω x → N x
  orc : OrcO ω b H
  keep : Keep ω E H
inductive Kd | b | v | o | t
  deriving DecidableEq
/-- a new tuple, known by its one object -/
def PlainT (p : Addr) (vs : List V) : HO := .ext fun h => ∃ its : List Value, Vals vs its ∧ its.length ≤ sizeLine ∧ h.get? p = some ({ cls := .type "tuple", data := .seq its.toArray } : Obj)
def RK (ω : Option Om) (N : Addr → Prop) (H H' : Hp) : Kd → V → D → Prop
  | .b, v, d => InB K ω N H' v d
  | .v, v, d => In K N H' v d
  | .o, v, d => ∃ p, v = .ref p ∧ H p = none ∧ OwnAt K (addN N p) H' p d
  | .t, v, d => ∃ p vs ds, v = .ref p ∧ d = .tuple ds ∧ H p = none ∧ H' p = some (PlainT p vs) ∧ InAll K N H' vs ds
abbrev FE := Ev → Tr D
abbrev FT := Ev → Tr Bool
def tX (kd : Kd) (f : FE) : TE := fun σ H Q => ∃ ω N E b env, RepE K ω N E H b env σ ∧ (f env).All b fun d c => ∀ v H', Keep ω H H' → OrcO ω c H' → RK K ω N H H' kd v d → Q v H'
def tY (f : FT) : TT := fun σ H Q => ∃ ω N E b env, RepE K ω N E H b env σ ∧ (f env).All b fun d c => ∀ H', Keep ω H H' → OrcO ω c H' → Q d H'
end
section
variable {K : PySem.W.Frag} {ω : Option Om} {N N' : Addr → Prop} {E H H' H2 : Hp} {b c : Nat} {env : Ev} {σ : L2.St}
theorem OwnAt.mono {a : Addr} {d : D} (h : OwnAt K N H a d) (hn : ∀ x, N' x → N x ∨ H x = none) (hk : ∀ x o, H x = some o → ¬ N x → H' x = some o) (ha : H' a = H a) : OwnAt K N' H' a d := by
  cases d with
  | list ds => obtain ⟨xs, e, h⟩ := h; exact ⟨xs, ha.trans e, h.mono hn hk⟩
  | dict es =>
    obtain ⟨kvs, e, h⟩ := h
    exact ⟨kvs, ha.trans e, h.mono hn hk⟩
  | _ => exact h.elim
theorem OwnAt.there {a : Addr} {d : D} (h : OwnAt K N H a d) : ∃ o, H a = some o := by
  cases d with
  | list ds => obtain ⟨xs, e, h⟩ := h; exact ⟨_, e⟩
  | dict es =>
    obtain ⟨kvs, e, h⟩ := h
    exact ⟨_, e⟩
  | _ => exact h.elim
theorem OwnAt.keep {a : Addr} {d : D} (h : OwnAt K N H a d) (om : ∀ x, OmAt ω x → N x) (hk : Keep ω H H') (ha : ¬ OmAt ω a) : OwnAt K N H' a d := by
  obtain ⟨o, e⟩ := h.there
  exact h.mono (fun _ z => .inl z) (fun x o e n => hk x o e fun z => n (om x z)) ((hk a o e ha).trans e.symm)
theorem In.keep {v : V} {d : D} (h : In K N H v d) (om : ∀ x, OmAt ω x → N x) (hk : Keep ω H H') : In K N H' v d := h.mono (fun _ z => .inl z) fun x o e n => hk x o e fun z => n (om x z)
theorem In.weak {v : V} {d : D} (h : In K N H v d) (hn : ∀ x, N' x → N x) : In K N' H v d := h.mono (fun x z => .inl (hn x z)) fun x o e _ => e
theorem InAll.keep {vs : List V} {ds : List D} (h : InAll K N H vs ds) (om : ∀ x, OmAt ω x → N x) (hk : Keep ω H H') : InAll K N H' vs ds := h.mono (fun _ z => .inl z) fun x o e n => hk x o e fun z => n (om x z)
theorem InB.keep {v : V} {d : D} (h : InB K ω N H v d) (om : ∀ x, OmAt ω x → N x) (hk : Keep ω H H') : InB K ω N H' v d := by
  rcases h with h | ⟨a, rfl, n, h⟩
  · exact .inl (h.keep om hk)
  · exact .inr ⟨a, rfl, n, h.keep om hk n⟩
/-- an own thing, read -/
theorem OwnAt.in {a : Addr} {d : D} (h : OwnAt K N H a d) (ha : ¬ N a) : In K N H (.ref a) d := by
  cases d with
  | list ds => obtain ⟨xs, e, h⟩ := h; exact .lst ha e h
  | dict es =>
    obtain ⟨kvs, e, h⟩ := h
    exact .dk ha e h
  | _ => exact h.elim
theorem InB.om {v : V} {d : D} (h : InB K ω N H v d) (om : ∀ x, OmAt ω x → N x) : In K (OmAt ω) H v d := by
  rcases h with h | ⟨a, rfl, n, h⟩
  · exact h.weak om
  · exact (h.mono (N' := OmAt ω) (fun x z => .inl (om x z)) (fun _ _ e _ => e) rfl).in n
theorem RK.vb {v : V} {d : D} (h : RK K ω N H H' .v v d) : RK K ω N H H' .b v d := .inl h
theorem RK.ov {v : V} {d : D} (h : RK K ω N H H' .o v d) (dom : ∀ x, N x → H x ≠ none) : RK K ω N H H' .v v d := by
  obtain ⟨p, rfl, e, h⟩ := h
  exact (h.mono (N' := N) (fun x z => .inl (.inl z)) (fun _ _ e _ => e) rfl).in fun z => dom p z e
theorem InB.list {v : V} {ds : List D} (h : InB K ω N H v (.list ds)) : ∃ a xs, v = .ref a ∧ H a = some (.lst xs) ∧ InAll K N H xs ds := by
  rcases h with h | ⟨a, rfl, _, xs, e, h⟩
  · exact h.list_inv
  · exact ⟨a, xs, rfl, e, h⟩
theorem InB.tuple {v : V} {ds : List D} (h : InB K ω N H v (.tuple ds)) : ∃ a xs, v = .ref a ∧ SqT K H a xs ∧ InAll K N H xs ds := by
  rcases h with h | ⟨a, rfl, _, h⟩
  · exact h.tuple_inv
  · exact h.elim
theorem InB.int {v : V} {i : Int} (h : InB K ω N H v (.int i)) : v = .int i := by
  rcases h with h | ⟨a, rfl, _, h⟩
  · exact h.int_inv
  · exact h.elim
theorem InB.str {v : V} {x : Str} (h : InB K ω N H v (.str x)) : v = .str x := by
  rcases h with h | ⟨a, rfl, _, h⟩
  · exact h.str_inv
  · exact h.elim
theorem InB.bool {v : V} {x : Bool} (h : InB K ω N H v (.bool x)) : v = .bl x := by
  rcases h with h | ⟨a, rfl, _, h⟩
  · exact h.bool_inv
  · exact h.elim
theorem InB.none {v : V} (h : InB K ω N H v .none) : v = .non := by
  rcases h with h | ⟨a, rfl, _, h⟩
  · exact h.none_inv
  · exact h.elim
theorem SlotR.keep {s : Slot} {v : V} (h : SlotR K ω N E H s v) (om : ∀ x, OmAt ω x → N x) (hk : Keep ω H H') : SlotR K ω N E H' s v := by
  cases s with
  | val d => exact In.keep h om hk
  | own d => obtain ⟨a, e, n, no, z, h⟩ := h; exact ⟨a, e, n, no, z, h.keep om hk no⟩
  | orc => exact h
theorem RepE.move (r : RepE K ω N E H b env σ) (hk : Keep ω H H') (ho : OrcO ω c H') : RepE K ω N E H' c env σ where
  len := r.len
  slot := fun i s e => by
    obtain ⟨v, e1, h⟩ := r.slot i s e
    exact ⟨v, e1, h.keep r.om hk⟩
  sep := r.sep
  dom := fun x hx => by
    by_cases z : OmAt ω x
    · exact ho.there z
    · cases e : H x with
      | none => exact absurd e (r.dom x hx)
      | some o => rw [hk x o e z]; exact fun q => nomatch q
  om := r.om
  orc := ho
  keep := r.keep.trans hk
/-- a value comes into a slot -/
theorem RepE.set {i : Nat} {s : Slot} {v : V} (r : RepE K ω N E H b env σ) (h : SlotR K ω N E H s v) (hs : ∀ d a, s = .own d → v = .ref a → ∀ (j : Nat) (dj : D), j ≠ i → env[j]? = some (some (.own dj)) → σ[j]? ≠ some (some (.ref a))) :
    RepE K ω N E H b (env.set i (some s)) (σ.set i (some v)) where
  len := by rw [List.length_set, List.length_set]; exact r.len
  slot := fun j t e => by
    by_cases z : i = j
    · subst z
      have hi : i < env.length := by
        have := List.getElem?_eq_some_iff.mp e
        obtain ⟨q, _⟩ := this
        rwa [List.length_set] at q
      rw [List.getElem?_set_self hi] at e
      cases e
      exact ⟨v, List.getElem?_set_self (by rw [r.len]; exact hi), h⟩
    · rw [List.getElem?_set_ne z] at e
      obtain ⟨w, e1, q⟩ := r.slot j t e
      exact ⟨w, by rw [List.getElem?_set_ne z]; exact e1, q⟩
  sep := fun j k dj dk a hjk e1 e2 e3 e4 => by
    by_cases z : i = j
    · subst z
      rw [List.getElem?_set_ne hjk] at e2 e4
      have hi : i < env.length := by
        obtain ⟨q, _⟩ := List.getElem?_eq_some_iff.mp e1
        rwa [List.length_set] at q
      rw [List.getElem?_set_self hi] at e1
      rw [List.getElem?_set_self (by rw [r.len]; exact hi)] at e3
      cases e1
      cases e3
      exact hs dj a rfl rfl k dk (fun q => hjk q.symm) e2 e4
    · rw [List.getElem?_set_ne z] at e1 e3
      by_cases y : i = k
      · subst y
        have hi : i < env.length := by
          obtain ⟨q, _⟩ := List.getElem?_eq_some_iff.mp e2
          rwa [List.length_set] at q
        rw [List.getElem?_set_self hi] at e2
        rw [List.getElem?_set_self (by rw [r.len]; exact hi)] at e4
        cases e2
        cases e4
        exact hs dk a rfl rfl j dj hjk e1 e3
      · rw [List.getElem?_set_ne y] at e2 e4
        exact r.sep j k dj dk a hjk e1 e2 e3 e4
  dom := r.dom
  om := r.om
  orc := r.orc
  keep := r.keep
theorem RepE.setV {i : Nat} {d : D} {v : V} (r : RepE K ω N E H b env σ) (h : In K N H v d) : RepE K ω N E H b (env.set i (some (.val d))) (σ.set i (some v)) :=
  r.set (s := .val d) h fun _ _ e => nomatch e
theorem RepE.own {i : Nat} {d : D} {p : Addr} (r : RepE K ω N E H b env σ) (hk : Keep ω H H') (ho : OrcO ω c H') (hp : H p = none) (h : OwnAt K (addN N p) H' p d) :
    RepE K ω (addN N p) E H' c (env.set i (some (.own d))) (σ.set i (some (.ref p))) := by
  have np : ¬ N p := fun z => r.dom p z hp
  have nop : ¬ OmAt ω p := fun z => np (r.om p z)
  obtain ⟨op, ep⟩ := h.there
  have hE : E p = none := by
    cases e : E p with
    | none => rfl
    | some o => rw [r.keep p o e nop] at hp; cases hp
  have kk : ∀ x o, H x = some o → ¬ N x → H' x = some o := fun x o e n => hk x o e fun z => n (r.om x z)
  have r1 : RepE K ω (addN N p) E H' c env σ := {
    len := r.len
    slot := fun j s e => by
      obtain ⟨v, e1, q⟩ := r.slot j s e
      refine ⟨v, e1, ?_⟩
      cases s with
      | val d => exact In.mono (fun x z => z.elim .inl fun e => .inr (by rw [e]; exact hp)) kk q
      | own d =>
        obtain ⟨a, e2, n, no, z, q⟩ := q
        obtain ⟨oa, ea⟩ := q.there
        exact ⟨a, e2, .inl n, no, z, q.mono (fun x z => z.elim .inl fun e => .inr (by rw [e]; exact hp)) kk ((hk a oa ea no).trans ea.symm)⟩
      | orc => exact q
    sep := r.sep
    dom := fun x hx => by
      rcases hx with hx | rfl
      · exact (r.move hk ho).dom x hx
      · rw [ep]; exact fun q => nomatch q
    om := fun x z => .inl (r.om x z)
    orc := ho
    keep := r.keep.trans hk }
  refine r1.set (s := .own d) ⟨p, rfl, .inr rfl, nop, hE, h⟩ fun d' a e1 e2 j dj hj e3 e4 => ?_
  cases e2
  obtain ⟨v, e5, a', e6, n, no, z, q⟩ := r.slot j _ e3
  rw [e4] at e5
  cases e5
  cases e6
  exact np n
end
end DL
end
section
set_option linter.all false
set_option maxRecDepth 100000
namespace DL
open PySem PySem.Spec PyProof.Rows L2
theorem weak {X : Cx} {e : Expr} {t t' : TE} (h : PE X e t) (k : ∀ σ H Q, t' σ H Q → t σ H Q) : PE X e t' := ⟨fun pins s σ H Q I q => h.run pins s σ H Q I (k σ H Q q)⟩
theorem weakT {X : Cx} {e : Expr} {t t' : TT} (h : PT X e t) (k : ∀ σ H Q, t' σ H Q → t σ H Q) : PT X e t' := ⟨fun pins s σ H Q I q => h.run pins s σ H Q I (k σ H Q q)⟩
theorem weakW {X : Cx} {e : Expr} {t t' : TT} (h : PW X e t) (k : ∀ σ H Q, t' σ H Q → t σ H Q) : PW X e t' := ⟨fun w pins s σ H Q I q => h.run w pins s σ H Q I (k σ H Q q)⟩
theorem weakA {X : Cx} {es : List Expr} {t t' : TA} (h : PA X es t) (k : ∀ σ H Q, t' σ H Q → t σ H Q) : PA X es t' := ⟨fun p pins s σ H Q I q => h.run p pins s σ H Q I (k σ H Q q)⟩
abbrev XE (X : Cx) (kd : Kd) (e : Expr) (f : FE) : Prop := PE X e (tX X.K kd f)
abbrev XT (X : Cx) (e : Expr) (f : FT) : Prop := PT X e (tY X.K f)
abbrev XW (X : Cx) (e : Expr) (f : FT) : Prop := PW X e (tY X.K f)
section
variable {K : PySem.W.Frag} {ω : Option Om} {N : Addr → Prop} {E H H1 H2 : Hp} {b c : Nat} {env : Ev} {σ : L2.St}
theorem Keep.none {x : Addr} (k : Keep ω H H1) (ho : OrcO ω c H1) (h : H1 x = Option.none) : H x = Option.none := by
  cases e : H x with
  | none => rfl
  | some o =>
    by_cases z : OmAt ω x
    · exact absurd h (ho.there z)
    · rw [k x o e z] at h
      cases h
/-- an end told over the later heap -/
theorem RK.back {kd : Kd} {v : V} {d : D} (k : Keep ω H H1) (ho : OrcO ω c H1) (h : RK K ω N H1 H2 kd v d) : RK K ω N H H2 kd v d := by
  cases kd with
  | b => exact h
  | v => exact h
  | o =>
    obtain ⟨p, e, z, q⟩ := h
    exact ⟨p, e, k.none ho z, q⟩
  | t =>
    obtain ⟨p, vs, ds, e, ed, z, q⟩ := h
    exact ⟨p, vs, ds, e, ed, k.none ho z, q⟩
theorem RK.toB {kd : Kd} {v : V} {d : D} (nt : ∀ ds, d ≠ .tuple ds) (h : RK K ω N H H1 kd v d) (dom : ∀ x, N x → H x ≠ Option.none) : InB K ω N H1 v d := by
  cases kd with
  | b => exact h
  | v => exact .inl h
  | o => exact .inl (h.ov dom)
  | t =>
    obtain ⟨p, vs, ds, e, ed, _⟩ := h
    exact absurd ed (nt ds)
end
section
variable {X : Cx}
theorem xe_vb {e : Expr} {f : FE} (h : XE X .v e f) : XE X .b e f := weak h fun σ H Q ⟨ω, N, E, b, env, r, q⟩ =>
  ⟨ω, N, E, b, env, r, Tr.All_mono q fun d c z v H' k o i => z v H' k o (.inl i)⟩
theorem xe_ov {e : Expr} {f : FE} (h : XE X .o e f) : XE X .v e f := weak h fun σ H Q ⟨ω, N, E, b, env, r, q⟩ =>
  ⟨ω, N, E, b, env, r, Tr.All_mono q fun d c z v H' k o i => z v H' k o (i.ov r.dom)⟩
/-! ### names and constants -/
def eVar (i : Nat) : FE := fun env => match env[i]? with
  | some (some (.val d)) => .ret d
  | _ => .fail
def eVarB (i : Nat) : FE := fun env => match env[i]? with
  | some (some (.val d)) => .ret d
  | some (some (.own d)) => .ret d
  | _ => .fail
def eC (d : D) : FE := fun _ => .ret d
theorem xe_var {e : Expr} {i : Nat} (h : PE X e (tVar i)) : XE X .v e (eVar i) := weak h fun σ H Q ⟨ω, N, E, b, env, r, q⟩ => by
  unfold eVar at q
  split at q
  · rename_i d e
    obtain ⟨v, e1, h1⟩ := r.slot i _ e
    exact ⟨v, e1, q v H Keep.refl r.orc h1⟩
  · exact q.elim
theorem xe_varB {e : Expr} {i : Nat} (h : PE X e (tVar i)) : XE X .b e (eVarB i) := weak h fun σ H Q ⟨ω, N, E, b, env, r, q⟩ => by
  unfold eVarB at q
  split at q
  · rename_i d e
    obtain ⟨v, e1, h1⟩ := r.slot i _ e
    exact ⟨v, e1, q v H Keep.refl r.orc (.inl h1)⟩
  · rename_i d e
    obtain ⟨v, e1, a, e2, n, no, z, h1⟩ := r.slot i _ e
    exact ⟨v, e1, q v H Keep.refl r.orc (.inr ⟨a, e2, no, h1⟩)⟩
  · exact q.elim
theorem xe_int {i j pos} : XE X .v (.Constant (.int i) j pos) (eC (.int i)) := weak pe_int fun σ H Q ⟨ω, N, E, b, env, r, q⟩ => q _ H Keep.refl r.orc (.int i)
theorem xe_bl {i j pos} : XE X .v (.Constant (.bool i) j pos) (eC (.bool i)) := weak pe_bl fun σ H Q ⟨ω, N, E, b, env, r, q⟩ => q _ H Keep.refl r.orc (.bl i)
theorem xe_non {j pos} : XE X .v (.Constant .none j pos) (eC .none) := weak pe_non fun σ H Q ⟨ω, N, E, b, env, r, q⟩ => q _ H Keep.refl r.orc .non
theorem xe_str {i j pos} : XE X .v (.Constant (.str i) j pos) (eC (.str i)) := weak pe_str fun σ H Q ⟨ω, N, E, b, env, r, q⟩ => q _ H Keep.refl r.orc (.str i)
/-- a constant of the module -/
theorem xe_glob {x : Str} {v : V} {u : Value} {pos : Pos} {d : D} (hg : Gl X x) (hm : X.mg x = some u) (r : RelV v u) (hd : ∀ N H, In X.K N H v d) (hdb : (x == ("__debug__" : Str)) = false := by decide) : XE X .v (.Name x pos) (eC d) :=
  weak (pe_glob hg hm r hdb) fun σ H Q ⟨ω, N, E, b, env, r, q⟩ => q _ H Keep.refl r.orc (hd N H)
/-! ### two operands -/
def e2 (g : D → D → Option D) (fa fb : FE) : FE := fun env => (fa env).bind fun x => (fb env).bind fun y => Tr.ofOpt (g x y)
/-- a reading of a value rule over data: what g tells comes, of the kind kd; nothing tracked is changed -/
def rD2 (K : PySem.W.Frag) (g : D → D → Option D) (kd : Kd) : R2 := fun v u H Q => ∃ ω N x y d, (∀ x, OmAt ω x → N x) ∧ (∀ x, N x → H x ≠ none) ∧ InB K ω N H v x ∧ InB K ω N H u y ∧ g x y = some d ∧
  ∀ v' H', Same H H' → RK K ω N H H' kd v' d → Q v' H'
theorem OpR.weaken {f : Value → Value → Sem Value} {r r' : R2} (h : OpR X f r) (k : ∀ v u H Q, r' v u H Q → r v u H Q) : OpR X f r' := fun pins s σ H x y v u Q I rx ry q => h pins s σ H x y v u Q I rx ry (k x y H Q q)
theorem read2 {fa fb : FE} {g : D → D → Option D} {kd : Kd} {K : PySem.W.Frag} {σ : L2.St} {H : Hp} {Q : VK} (h : tX K kd (e2 g fa fb) σ H Q) : tOp (rD2 K g kd) (tX K .b fa) (tX K .b fb) σ H Q := by
  obtain ⟨ω, N, E, b, env, r, q⟩ := h
  refine ⟨ω, N, E, b, env, r, Tr.All_mono ((Tr.All_bind _ _ _ _).mp q) fun x c qa v H1 k1 o1 i1 => ?_⟩
  refine ⟨ω, N, E, c, env, r.move k1 o1, Tr.All_mono ((Tr.All_bind _ _ _ _).mp qa) fun y c2 qb u H2 k2 o2 i2 => ?_⟩
  cases e : g x y with
  | none => rw [e] at qb; exact qb.elim
  | some d =>
    rw [e] at qb
    have r2 := (r.move k1 o1).move k2 o2
    exact ⟨ω, N, x, y, d, r.om, r2.dom, InB.keep i1 r.om k2, i2, e, fun v' H' s' i' => qb v' H' ((k1.trans k2).trans (Keep.of s')) (o2.same s') (RK.back (k1.trans k2) o2 i')⟩
theorem xe_op {op : Operator} {a b : Expr} {fa fb : FE} {g : D → D → Option D} {kd : Kd} {pos : Pos} (ho : OpR X (binaryOp op) (rD2 X.K g kd)) (ha : XE X .b a fa) (hb : XE X .b b fb) : XE X kd (.BinOp a op b pos) (e2 g fa fb) :=
  weak (pe_op ho ha hb) fun _ _ _ h => read2 h
theorem xe_cmp {op : CmpOp} {a b : Expr} {fa fb : FE} {g : D → D → Option D} {kd : Kd} {pos : Pos} (ho : OpR X (compareOp op) (rD2 X.K g kd)) (ha : XE X .b a fa) (hb : XE X .b b fb) (hm : behindInMarks op b = false) : XE X kd (.Compare a [op] [b] pos) (e2 g fa fb) :=
  weak (pe_cmpR ho ha hb hm) fun _ _ _ h => read2 h
/-- the truth of what is a truth -/
def tt (f : FE) : FT := fun env => (f env).bind fun d => match d with
  | .bool k => .ret k
  | _ => .fail
theorem readT {f : FE} {kd : Kd} {K : PySem.W.Frag} {σ : L2.St} {H : Hp} {Q : Bool → Hp → Prop} (h : tY K (tt f) σ H Q) : tX K kd f σ H fun x H' => ∃ k, x = .bl k ∧ Q k H' := by
  obtain ⟨ω, N, E, b, env, r, q⟩ := h
  refine ⟨ω, N, E, b, env, r, Tr.All_mono ((Tr.All_bind _ _ _ _).mp q) fun x c qa v H1 k1 o1 i1 => ?_⟩
  cases x with
  | bool k => exact ⟨k, (RK.toB (fun _ z => by cases z) i1 r.dom).bool, qa H1 k1 o1⟩
  | _ => exact qa.elim
theorem xt_cmp {op : CmpOp} {a b : Expr} {fa fb : FE} {g : D → D → Option D} {pos : Pos} (ho : OpR X (compareOp op) (rD2 X.K g .v)) (ha : XE X .b a fa) (hb : XE X .b b fb) (hm : behindInMarks op b = false) : XT X (.Compare a [op] [b] pos) (tt (e2 g fa fb)) :=
  weakT (pt_cmpR ho ha hb hm) fun σ H Q h => by
    have q : tX X.K .v (e2 g fa fb) σ H fun x H' => ∃ k, x = .bl k ∧ Q k H' := readT h
    exact read2 q
theorem xt_val {e : Expr} {f : FE} {kd : Kd} (h : XE X kd e f) (he : ∀ whole, isTrue e X.env whole = (do let v ← whole; standAt e.pos; holding [v] (truthy v)) := by intro _; rfl) : XT X e (tt f) :=
  weakT (pt_val h he) fun σ H Q h => readT h
/-! ### and, or, not, if -/
def bAnd (f g : FT) : FT := fun env => (f env).bind fun c => if c = true then g env else .ret false
def bOr (f g : FT) : FT := fun env => (f env).bind fun c => if c = true then .ret true else g env
def bNot (f : FT) : FT := fun env => (f env).bind fun c => .ret (!c)
def eIf (c : FT) (f g : FE) : FE := fun env => (c env).bind fun k => if k = true then f env else g env
section
variable {a b : Expr} {rest : List Expr} {f g : FT} {fa fb : FE} {pos : Pos}
theorem xw_and1 (ha : XT X a f) : XW X (.BoolOp .And [a] pos) f := pw_and1 ha
theorem xw_or1 (ha : XT X a f) : XW X (.BoolOp .Or [a] pos) f := pw_or1 ha
theorem xw_and (ha : XT X a f) (hb : XW X (.BoolOp .And (b :: rest) pos) g) : XW X (.BoolOp .And (a :: b :: rest) pos) (bAnd f g) := weakW (pw_and ha hb) fun σ H Q ⟨ω, N, E, b, env, r, q⟩ => by
  refine ⟨ω, N, E, b, env, r, Tr.All_mono ((Tr.All_bind _ _ _ _).mp q) fun x c qa H1 k1 o1 => ?_⟩
  cases x with
  | true => exact ⟨ω, N, E, c, env, r.move k1 o1, Tr.All_mono qa fun y c2 qb H2 k2 o2 => qb H2 (k1.trans k2) o2⟩
  | false => exact qa H1 k1 o1
theorem xw_or (ha : XT X a f) (hb : XW X (.BoolOp .Or (b :: rest) pos) g) : XW X (.BoolOp .Or (a :: b :: rest) pos) (bOr f g) := weakW (pw_or ha hb) fun σ H Q ⟨ω, N, E, b, env, r, q⟩ => by
  refine ⟨ω, N, E, b, env, r, Tr.All_mono ((Tr.All_bind _ _ _ _).mp q) fun x c qa H1 k1 o1 => ?_⟩
  cases x with
  | true => exact qa H1 k1 o1
  | false => exact ⟨ω, N, E, c, env, r.move k1 o1, Tr.All_mono qa fun y c2 qb H2 k2 o2 => qb H2 (k1.trans k2) o2⟩
theorem xt_not (ha : XT X a f) : XT X (.UnaryOp .Not a pos) (bNot f) := weakT (pt_not ha) fun σ H Q ⟨ω, N, E, b, env, r, q⟩ =>
  ⟨ω, N, E, b, env, r, Tr.All_mono ((Tr.All_bind _ _ _ _).mp q) fun x c qa H1 k1 o1 => qa H1 k1 o1⟩
theorem xe_if {c : Expr} {kd : Kd} (hc : XT X c f) (ha : XE X kd a fa) (hb : XE X kd b fb) : XE X kd (.IfExp c a b pos) (eIf f fa fb) := weak (pe_ifExp hc ha hb) fun σ H Q ⟨ω, N, E, b, env, r, q⟩ => by
  refine ⟨ω, N, E, b, env, r, Tr.All_mono ((Tr.All_bind _ _ _ _).mp q) fun x c qa H1 k1 o1 => ?_⟩
  cases x with
  | true => exact ⟨ω, N, E, c, env, r.move k1 o1, Tr.All_mono qa fun y c2 qb v H2 k2 o2 i2 => qb v H2 (k1.trans k2) o2 (RK.back k1 o1 i2)⟩
  | false => exact ⟨ω, N, E, c, env, r.move k1 o1, Tr.All_mono qa fun y c2 qb v H2 k2 o2 i2 => qb v H2 (k1.trans k2) o2 (RK.back k1 o1 i2)⟩
/-- and, or, not as values -/
def vAnd (f g : FE) : FE := fun env => (f env).bind fun d => match d with
  | .bool true => g env
  | .bool false => .ret (.bool false)
  | _ => .fail
def vOr (f g : FE) : FE := fun env => (f env).bind fun d => match d with
  | .bool false => g env
  | .bool true => .ret (.bool true)
  | _ => .fail
def vNot (f : FE) : FE := fun env => (f env).bind fun d => match d with
  | .bool c => .ret (.bool (!c))
  | _ => .fail
theorem xe_one {op} {kd : Kd} (ha : XE X kd a fa) : XE X kd (.BoolOp op [a] pos) fa := pe_one ha
theorem xe_and (ha : XE X .v a fa) (hb : XE X .v (.BoolOp .And (b :: rest) pos) fb) : XE X .v (.BoolOp .And (a :: b :: rest) pos) (vAnd fa fb) := weak (pe_and ha hb) fun σ H Q ⟨ω, N, E, b, env, r, q⟩ => by
  refine ⟨ω, N, E, b, env, r, Tr.All_mono ((Tr.All_bind _ _ _ _).mp q) fun x c qa v H1 k1 o1 i1 => ?_⟩
  cases x with
  | bool k =>
    refine ⟨k, In.bool_inv i1, ?_⟩
    cases k with
    | true => exact ⟨ω, N, E, c, env, r.move k1 o1, Tr.All_mono qa fun y c2 qb v H2 k2 o2 i2 => qb v H2 (k1.trans k2) o2 (RK.back k1 o1 i2)⟩
    | false => exact qa _ H1 k1 o1 (.bl false)
  | _ => exact qa.elim
theorem xe_or (ha : XE X .v a fa) (hb : XE X .v (.BoolOp .Or (b :: rest) pos) fb) : XE X .v (.BoolOp .Or (a :: b :: rest) pos) (vOr fa fb) := weak (pe_or ha hb) fun σ H Q ⟨ω, N, E, b, env, r, q⟩ => by
  refine ⟨ω, N, E, b, env, r, Tr.All_mono ((Tr.All_bind _ _ _ _).mp q) fun x c qa v H1 k1 o1 i1 => ?_⟩
  cases x with
  | bool k =>
    refine ⟨k, In.bool_inv i1, ?_⟩
    cases k with
    | false => exact ⟨ω, N, E, c, env, r.move k1 o1, Tr.All_mono qa fun y c2 qb v H2 k2 o2 i2 => qb v H2 (k1.trans k2) o2 (RK.back k1 o1 i2)⟩
    | true => exact qa _ H1 k1 o1 (.bl true)
  | _ => exact qa.elim
theorem xe_not (ha : XE X .v a fa) : XE X .v (.UnaryOp .Not a pos) (vNot fa) := weak (pe_not ha) fun σ H Q ⟨ω, N, E, b, env, r, q⟩ => by
  refine ⟨ω, N, E, b, env, r, Tr.All_mono ((Tr.All_bind _ _ _ _).mp q) fun x c qa v H1 k1 o1 i1 => ?_⟩
  cases x with
  | bool k => exact ⟨k, In.bool_inv i1, qa _ H1 k1 o1 (.bl _)⟩
  | _ => exact qa.elim
end
/-! ### chains -/
def eChain (g g' : D → D → Option D) (fa fb fc : FE) : FE := fun env => (fa env).bind fun x => (fb env).bind fun y => match g x y with
  | some (.bool true) => (fc env).bind fun z => Tr.ofOpt (g' y z)
  | some (.bool false) => .ret (.bool false)
  | _ => .fail
theorem readC {K : PySem.W.Frag} {fa fb fc : FE} {g g' : D → D → Option D} {σ : L2.St} {H : Hp} {Q : VK} (h : tX K .v (eChain g g' fa fb fc) σ H Q) :
    tChain (rD2 K g .v) (rD2 K g' .v) (tX K .b fa) (tX K .b fb) (tX K .b fc) σ H Q := by
  obtain ⟨ω, N, E, b, env, r, q⟩ := h
  refine ⟨ω, N, E, b, env, r, Tr.All_mono ((Tr.All_bind _ _ _ _).mp q) fun x c qa v H1 k1 o1 i1 => ?_⟩
  refine ⟨ω, N, E, c, env, r.move k1 o1, Tr.All_mono ((Tr.All_bind _ _ _ _).mp qa) fun y c2 qb u H2 k2 o2 i2 => ?_⟩
  have r2 := (r.move k1 o1).move k2 o2
  cases e : g x y with
  | none => rw [e] at qb; exact qb.elim
  | some d =>
    rw [e] at qb
    refine ⟨ω, N, x, y, d, r.om, r2.dom, InB.keep i1 r.om k2, i2, e, fun v' H3 s3 i3 => ?_⟩
    cases d with
    | bool k =>
      refine ⟨k, In.bool_inv i3, ?_⟩
      cases k with
      | true =>
        have r3 := r2.move (Keep.of s3) (o2.same s3)
        refine ⟨ω, N, E, c2, env, r3, Tr.All_mono ((Tr.All_bind _ _ _ _).mp qb) fun z c3 qc w H4 k4 o4 i4 => ?_⟩
        cases e' : g' y z with
        | none => rw [e'] at qc; exact qc.elim
        | some d' =>
          rw [e'] at qc
          have k24 : Keep ω H2 H4 := (Keep.of s3).trans k4
          exact ⟨ω, N, y, z, d', r.om, (r3.move k4 o4).dom, InB.keep i2 r.om k24, i4, e', fun v5 H5 s5 i5 => qc v5 H5 (((k1.trans k2).trans k24).trans (Keep.of s5)) (o4.same s5) i5⟩
      | false => exact qb _ H3 ((k1.trans k2).trans (Keep.of s3)) (o2.same s3) (.bl false)
    | _ => exact qb.elim
theorem xe_chain {op op' : CmpOp} {a b c : Expr} {fa fb fc : FE} {g g' : D → D → Option D} {pos : Pos} (ho : OpR X (compareOp op) (rD2 X.K g .v)) (ho' : OpR X (compareOp op') (rD2 X.K g' .v)) (ha : XE X .b a fa) (hb : XE X .b b fb) (hc : XE X .b c fc)
    (hm : lastMarks [op, op'] [b, c] = false := by with_unfolding_all rfl) : XE X .v (.Compare a [op, op'] [b, c] pos) (eChain g g' fa fb fc) := weak (pe_chain ho ho' ha hb hc hm) fun _ _ _ h => readC h
theorem xt_chain {op op' : CmpOp} {a b c : Expr} {fa fb fc : FE} {g g' : D → D → Option D} {pos : Pos} (ho : OpR X (compareOp op) (rD2 X.K g .v)) (ho' : OpR X (compareOp op') (rD2 X.K g' .v)) (ha : XE X .b a fa) (hb : XE X .b b fb) (hc : XE X .b c fc)
    (hm : lastMarks [op, op'] [b, c] = false := by with_unfolding_all rfl) : XT X (.Compare a [op, op'] [b, c] pos) (tt (eChain g g' fa fb fc)) := weakT (pt_chain ho ho' ha hb hc hm) fun σ H Q h => by
    have q : tX X.K .v (eChain g g' fa fb fc) σ H fun x H' => ∃ k, x = .bl k ∧ Q k H' := readT h
    exact readC q
end
end DL
end
section
set_option linter.all false
set_option maxRecDepth 100000
namespace DL
open PySem PySem.Spec PyProof.Rows L2
/-! ### new tuples, each known by its one object -/
section
variable {X : Cx}
theorem newT {pins : List (Addr × Obj)} {σ : List (Option V)} {H : Hp} {s : Shared} {t : Nat} {vs : List V} {ws : List Value} (I : Inv X pins σ H s) (r : Vals vs ws) (z : vs.length ≤ sizeLine) :
    Inv X pins σ (upd H s.heap.objs.size (.frz { cls := .type "tuple", data := .seq ws.toArray } (.tup vs))) { s with heap := s.heap.push { cls := .type "tuple", data := .seq ws.toArray }, toks := t } :=
  I.laid (fun _ _ g => Heap.get?_push_of_some _ g) (Nat.le_refl _) ⟨Heap.get?_push_size _ rfl, z, ws, r, IsTup.new _ _⟩
/-- what a rule asks of the wanted end where it makes a tuple -/
def QT (Q : VK) (H : Hp) (vs : List V) : Prop := ∀ (p : Addr) (o : Obj), H p = none → o.dict = none → Q (.ref p) (upd H p (.frz o (.tup vs)))
theorem QT.at {Q : VK} {pins : List (Addr × Obj)} {σ : List (Option V)} {H : Hp} {s : Shared} {vs : List V} {ws : List Value} (q : QT Q H vs) (I : Inv X pins σ H s) (r : Vals vs ws) (z : vs.length ≤ sizeLine) :
    EP X pins σ Q (.ref s.heap.objs.size) { s with heap := s.heap.push { cls := .type "tuple", data := .seq ws.toArray } } :=
  ⟨.ref s.heap.objs.size, _, newT (t := s.toks) I r z, rfl, q _ _ (I.hok.fresh (Nat.le_refl _)) rfl⟩
def tTupF (t : TA) : TE := fun σ H Q => t σ H fun vs H1 => vs.length ≤ sizeLine ∧ QT Q H1 vs
theorem pe_tupF {es : List Expr} {t : TA} {pos : Pos} {x1} (h : PA X es t) : PE X (.Tuple es x1 pos) (tTupF t) :=
  ⟨fun pins s σ H Q I hq => wpAny_Tuple_spliced (thn (h.run pos pins s σ H _ I hq) fun ws s1 ⟨vs, H1, I1, r, z, q⟩ => ⟨by rw [← r.length]; exact z, q.at I1 r z⟩)⟩
def rTupF (K : PySem.W.Frag) : List V → Hp → VK → Prop := fun us H Q => ∃ p vs, us = [.ref p] ∧ ((SqL K H p vs ∧ QT Q H vs) ∨ (SqT K H p vs ∧ Q (.ref p) H))
theorem call_tupF : CallR X (.type "tuple") (rTupF X.K) := by
  intro pins s σ H us ws Q I rw0 ⟨p, vs, e, h⟩
  rcases h with ⟨hq, q⟩ | ⟨hq, q⟩
  · subst e
    obtain ⟨w, e, rx⟩ := vals1 rw0
    subst e
    cases rx
    obtain ⟨its, r, pl, hz⟩ := I.list hq
    have hn : its.length ≤ sizeLine := by rw [← r.length]; exact hz
    refine call_tuple_list pl.isList (fun h' kp => ?_) (by rw [List.size_toArray]; exact hn)
    have I1 : Inv X pins σ H { s with heap := h' } := I.kept (t' := s.toks) kp
    exact q.at I1 r hz
  · exact call_tuple_of pins s σ H us ws Q I rw0 ⟨p, vs, e, .inr ⟨hq, q⟩⟩
def rCatF (K : PySem.W.Frag) : R2 := fun x y H Q => ∃ a b vs ws, x = .ref a ∧ y = .ref b ∧ SqT K H a vs ∧ SqT K H b ws ∧ vs.length + ws.length ≤ sizeLine ∧
  (vs = [] → Q (.ref b) H) ∧ (vs ≠ [] → ws = [] → Q (.ref a) H) ∧ (vs ≠ [] → ws ≠ [] → QT Q H (vs ++ ws))
theorem op_catF : OpR X (binaryOp .Add) (rCatF X.K) := by
  intro pins s σ H x y v u Q I rx ry ⟨a, b, vs, ws, ex, ey, ha, hb, hz, q0, q1, q2⟩
  by_cases hv : vs = []
  · exact op_catA pins s σ H x y v u Q I rx ry ⟨a, b, vs, ws, ex, ey, ha, hb, hz, q0, q1, fun e _ => absurd hv e⟩
  · subst ex ey
    cases rx
    cases ry
    obtain ⟨i1, r1, p1, _⟩ := I.tuple ha
    obtain ⟨i2, r2, p2, _⟩ := I.tuple hb
    refine HT.cat_tup p1 p2 (fun z => hv (r1.nil_iff.mp z)) (fun z => ⟨.ref a, H, I, rfl, q1 hv (r2.nil_iff.mp z)⟩) (fun z => ?_) (by rw [← r1.length, ← r2.length]; exact hz)
    exact (q2 hv fun w => z (r2.nil_iff.mpr w)).at I (r1.append r2) (by rw [List.length_append]; exact hz)
def rSlF (K : PySem.W.Frag) : V → Option Int → Option Int → Hp → VK → Prop := fun x lo hi H Q => ∃ a vs, x = .ref a ∧ SqT K H a vs ∧
  (HT.sIx vs.length 0 lo = 0 ∧ HT.sIx vs.length vs.length hi = vs.length → Q (.ref a) H) ∧ (¬ (HT.sIx vs.length 0 lo = 0 ∧ HT.sIx vs.length vs.length hi = vs.length) → QT Q H (cutV vs lo hi))
theorem sl_tupF : SlR X (rSlF X.K) := by
  intro pins s σ H x v vl vu lo hi sl Q I rx hs pl pu ⟨a, vs, ex, hx, q1, q2⟩
  by_cases hw : HT.sIx vs.length 0 lo = 0 ∧ HT.sIx vs.length vs.length hi = vs.length
  · exact sl_tupA pins s σ H x v vl vu lo hi sl Q I rx hs pl pu ⟨a, vs, ex, hx, q1, fun n => absurd hw n⟩
  · subst ex
    cases rx
    obtain ⟨its, r, ht, hz⟩ := I.tuple hx
    have hl : its.toArray.size = vs.length := by rw [List.size_toArray]; exact r.length.symm
    refine ⟨"tuple", _, PyProof.Rows.slot_tuple_getitem.lookup, ht.typeIs, ?_⟩
    refine HT.getItem_tuple_cut ht hs pl pu (by rw [hl]; exact hw) ?_ (by rw [hl]; exact hz)
    rw [hl]
    exact (q2 hw).at I ((r.drop (HT.sIx vs.length 0 lo)).take (HT.sIx vs.length vs.length hi - HT.sIx vs.length 0 lo)) (Nat.le_trans (cutV_length vs lo hi) hz)
end
/-! ### data read by the library's own relation -/
section
variable {K : PySem.W.Frag} {ω : Option Om} {N : Addr → Prop} {H : Hp}
mutual
theorem In.dp : ∀ {d : D} {v : V}, In K N H v d → d.hasDict = false → Dp K H v d
  | .none, _, h, _ => by cases h; exact .non
  | .bool b, _, h, _ => by cases h; exact .bl b
  | .int i, _, h, _ => by cases h; exact .int i
  | .str x, _, h, _ => by cases h; exact .str x
  | .list ds, _, h, e => by
    obtain ⟨a, xs, rfl, ha, h⟩ := h.list_inv
    exact .lst (.inl (.inl ha)) (InAll.dp h (by simpa [PyData.hasDict] using e))
  | .tuple ds, _, h, e => by
    obtain ⟨a, xs, rfl, ha, h⟩ := h.tuple_inv
    exact .tup ha (InAll.dp h (by simpa [PyData.hasDict] using e))
  | .dict _, _, _, e => by simp [PyData.hasDict] at e
theorem InAll.dp : ∀ {ds : List D} {vs : List V}, InAll K N H vs ds → PyData.hasDictAll ds = false → DpAll K H vs ds
  | [], _, h, _ => by cases h; exact .nil
  | d :: ds, _, h, e => by
    cases h with
    | cons h1 h2 =>
      have e' : d.hasDict = false ∧ PyData.hasDictAll ds = false := by simpa [PyData.hasDictAll] using e
      exact .cons (In.dp h1 e'.1) (InAll.dp h2 e'.2)
end
theorem InAll.dpL {ds : List D} {vs : List V} (h : InAll K N H vs ds) {a : Addr} (ha : H a = some (.lst vs)) (e : PyData.hasDictAll ds = false) : Dp K H (.ref a) (.list ds) := .lst (.inl (.inl ha)) (h.dp e)
theorem InB.dp {d : D} {v : V} (h : InB K ω N H v d) (e : d.hasDict = false) : Dp K H v d := by
  rcases h with h | ⟨a, rfl, _, h⟩
  · exact h.dp e
  · cases d with
    | list ds => obtain ⟨xs, ha, h⟩ := h; exact h.dpL ha (by simpa [PyData.hasDict] using e)
    | dict es => simp [PyData.hasDict] at e
    | _ => exact h.elim
theorem shaped_noDict {d : D} (h : SeqAt.shaped d = true) : d.hasDict = false := PyData.hasDict_of_canLay d (SeqAt.canLay_of_shaped h)
/-- new things -/
theorem In.newTup {p : Addr} {o : Obj} {xs : List V} {ds : List D} (h : InAll K N H xs ds) (hp : H p = none) (dom : ∀ x, N x → H x ≠ none) (od : o.dict = none) : In K N (upd H p (.frz o (.tup xs))) (.ref p) (.tuple ds) :=
  .tup (fun z => dom p z hp) ⟨o, upd_same, od⟩ (h.mono (fun _ z => .inl z) fun x o e _ => same_new hp x o e)
theorem OwnAt.newLst {p : Addr} {xs : List V} {ds : List D} (h : InAll K N H xs ds) (hp : H p = none) : OwnAt K (addN N p) (upd H p (.lst xs)) p (.list ds) :=
  ⟨xs, upd_same, h.mono (fun x z => z.elim .inl fun e => .inr (by rw [e]; exact hp)) fun x o e _ => same_new hp x o e⟩
theorem RK.newLst {p : Addr} {xs : List V} {ds : List D} (h : InAll K N H xs ds) (hp : H p = none) : RK K ω N H (upd H p (.lst xs)) .o (.ref p) (.list ds) := ⟨p, rfl, hp, OwnAt.newLst h hp⟩
end
/-! ### what the operators tell -/
def dAdd : D → D → Option D
  | .int i, .int j => some (.int (i + j))
  | .str x, .str y => if x.length + y.length ≤ sizeLine then some (.str (x ++ y)) else none
  | .tuple xs, .tuple ys => if xs.length + ys.length ≤ sizeLine then some (.tuple (xs ++ ys)) else none
  | _, _ => none
def dCat : D → D → Option D
  | .list xs, .list ys => if xs.length + ys.length ≤ sizeLine then some (.list (xs ++ ys)) else none
  | _, _ => none
def dSub : D → D → Option D
  | .int i, .int j => some (.int (i - j))
  | _, _ => none
def dMul : D → D → Option D
  | .int i, .int j => if (-(2 ^ 64) < i ∧ i < 2 ^ 64) ∨ (-(2 ^ 64) < j ∧ j < 2 ^ 64) then some (.int (i * j)) else none
  | _, _ => none
def dRep : D → D → Option D
  | .list xs, .int k => if -(2 ^ 63) ≤ k ∧ k < 2 ^ 63 ∧ xs.length * k.toNat ≤ sizeLine then some (.list (List.replicate k.toNat xs).flatten) else none
  | _, _ => none
def dDiv : D → D → Option D
  | .int i, .int j => if 0 < j ∧ j < 1073741824 then some (.int (i / j)) else none
  | _, _ => none
def dMod : D → D → Option D
  | .int i, .int j => if 0 < j then some (.int (i % j)) else none
  | _, _ => none
def dInt (p : Int → Int → Bool) : D → D → Option D
  | .int i, .int j => some (.bool (p i j))
  | _, _ => none
abbrev dLt := dInt fun i j => decide (i < j)
abbrev dLe := dInt fun i j => decide (i ≤ j)
abbrev dGt := dInt fun i j => decide (j < i)
abbrev dGe := dInt fun i j => decide (j ≤ i)
def dEq (x y : D) : Option D := if SeqAt.shaped x = true ∧ SeqAt.shaped y = true then some (.bool (PyData.eqv x y)) else none
def dNe (x y : D) : Option D := if SeqAt.shaped x = true ∧ SeqAt.shaped y = true then some (.bool (!PyData.eqv x y)) else none
def isNone : D → Bool
  | .none => true
  | _ => false
def dIsN (x y : D) : Option D := if isNone y = true then some (.bool (isNone x)) else none
def dNotN (x y : D) : Option D := if isNone y = true then some (.bool (!isNone x)) else none
def flatD : D → Bool
  | .none | .bool _ | .int _ | .str _ => true
  | _ => false
def memD (x : D) (ds : List D) : Bool := ds.any fun y => PyData.eqv y x
def dIn (neg : Bool) (x : D) : D → Option D
  | .list ds => if flatD x = true ∧ ds.all flatD = true then some (.bool (if neg = true then !memD x ds else memD x ds)) else none
  | .tuple ds => if flatD x = true ∧ ds.all flatD = true then some (.bool (if neg = true then !memD x ds else memD x ds)) else none
  | _ => none
section
variable {K : PySem.W.Frag} {ω : Option Om} {N : Addr → Prop} {H : Hp}
theorem flat_in {v : V} {d : D} (h : In K N H v d) (f : flatD d = true) : flatV v = true := by
  cases h <;> first | rfl | exact absurd (show false = true from f) Bool.false_ne_true
theorem eqV_in {v u : V} {d e : D} (h : In K N H v d) (k : In K N H u e) (f : flatD d = true) (f2 : flatD e = true) : eqV v u = PyData.eqv d e := by
  cases h <;> cases k <;> first | rfl | exact absurd (show false = true from f) Bool.false_ne_true | exact absurd (show false = true from f2) Bool.false_ne_true | simp [eqV, PyData.eqv]
theorem flats_in : ∀ {vs : List V} {ds : List D}, InAll K N H vs ds → ds.all flatD = true → vs.all flatV = true
  | _, _, .nil, _ => rfl
  | _, _, .cons h t, f => by
    rw [List.all_cons, Bool.and_eq_true] at f
    rw [List.all_cons, flat_in h f.1, flats_in t f.2]
    rfl
theorem inV_in {v : V} {d : D} (h : In K N H v d) (f : flatD d = true) : ∀ {vs : List V} {ds : List D}, InAll K N H vs ds → ds.all flatD = true → inV v vs = memD d ds
  | _, _, .nil, _ => rfl
  | u :: vs, e :: ds, .cons k t, g => by
    rw [List.all_cons, Bool.and_eq_true] at g
    have q := inV_in h f t g.2
    unfold inV memD at q ⊢
    rw [List.any_cons, List.any_cons, eqV_in k h g.1 f, q]
theorem InB.flat {v : V} {d : D} (h : InB K ω N H v d) (f : flatD d = true) : In K N H v d := by
  rcases h with h | ⟨a, rfl, _, h⟩
  · exact h
  · cases d with
    | list _ => exact absurd (show false = true from f) Bool.false_ne_true
    | dict _ => exact absurd (show false = true from f) Bool.false_ne_true
    | _ => exact h.elim
end
section
variable {X : Cx}
theorem o_add : OpR X (binaryOp .Add) (rD2 X.K dAdd .v) := by
  intro pins s σ H x y v u Q I rx ry ⟨ω, N, d, e, z, om, dom, hx, hy, hg, k⟩
  cases d <;> cases e <;> first | (cases hg; done) | skip
  · cases hx.int
    cases hy.int
    cases hg
    exact op_add pins s σ H _ _ v u Q I rx ry ⟨_, _, rfl, rfl, k _ H (Same.refl H) (.int _)⟩
  · cases hx.str
    cases hy.str
    simp only [dAdd] at hg
    split at hg
    · cases hg
      rename_i hz
      exact op_add_str pins s σ H _ _ v u Q I rx ry ⟨_, _, rfl, rfl, hz, k _ H (Same.refl H) (.str _)⟩
    · cases hg
  · obtain ⟨a, xs, rfl, ha, h1⟩ := hx.tuple
    obtain ⟨b, ys, rfl, hb, h2⟩ := hy.tuple
    simp only [dAdd] at hg
    split at hg
    · cases hg
      rename_i hz
      refine op_catF pins s σ H _ _ v u Q I rx ry ⟨a, b, xs, ys, rfl, rfl, ha, hb, by rw [h1.length, h2.length]; exact hz, fun e => ?_, fun e e2 => ?_, fun e e2 p o hp od => ?_⟩
      · subst e
        cases h1
        rcases hy with hy | ⟨_, _, _, hy⟩
        · exact k _ H (Same.refl H) hy
        · exact hy.elim
      · subst e2
        cases h2
        rw [List.append_nil] at k
        rcases hx with hx | ⟨_, _, _, hx⟩
        · exact k _ H (Same.refl H) hx
        · exact hx.elim
      · exact k _ _ (same_new hp) (In.newTup (h1.append h2) hp dom od)
    · cases hg
theorem o_cat : OpR X (binaryOp .Add) (rD2 X.K dCat .o) := by
  intro pins s σ H x y v u Q I rx ry ⟨ω, N, d, e, z, om, dom, hx, hy, hg, k⟩
  cases d <;> cases e <;> first | (cases hg; done) | skip
  obtain ⟨a, xs, rfl, ha, h1⟩ := hx.list
  obtain ⟨b, ys, rfl, hb, h2⟩ := hy.list
  simp only [dCat] at hg
  split at hg
  · cases hg
    rename_i hz
    exact op_cat pins s σ H _ _ v u Q I rx ry ⟨a, b, xs, ys, rfl, rfl, ha, hb, by rw [h1.length, h2.length]; exact hz, fun p hp => k _ _ (same_new hp) (RK.newLst (h1.append h2) hp)⟩
  · cases hg
theorem o_sub : OpR X (binaryOp .Sub) (rD2 X.K dSub .v) := by
  intro pins s σ H x y v u Q I rx ry ⟨ω, N, d, e, z, om, dom, hx, hy, hg, k⟩
  cases d <;> cases e <;> first | (cases hg; done) | skip
  cases hx.int
  cases hy.int
  cases hg
  exact op_sub pins s σ H _ _ v u Q I rx ry ⟨_, _, rfl, rfl, k _ H (Same.refl H) (.int _)⟩
theorem o_mul : OpR X (binaryOp .Mult) (rD2 X.K dMul .v) := by
  intro pins s σ H x y v u Q I rx ry ⟨ω, N, d, e, z, om, dom, hx, hy, hg, k⟩
  cases d <;> cases e <;> first | (cases hg; done) | skip
  cases hx.int
  cases hy.int
  simp only [dMul] at hg
  split at hg
  · cases hg
    rename_i hz
    exact op_mul pins s σ H _ _ v u Q I rx ry ⟨_, _, rfl, rfl, hz, k _ H (Same.refl H) (.int _)⟩
  · cases hg
theorem o_rep : OpR X (binaryOp .Mult) (rD2 X.K dRep .o) := by
  intro pins s σ H x y v u Q I rx ry ⟨ω, N, d, e, z, om, dom, hx, hy, hg, k⟩
  cases d <;> cases e <;> first | (cases hg; done) | skip
  obtain ⟨a, xs, rfl, ha, h1⟩ := hx.list
  cases hy.int
  simp only [dRep] at hg
  split at hg
  · cases hg
    rename_i hz
    refine op_rep pins s σ H _ _ v u Q I rx ry ⟨a, _, xs, rfl, rfl, ha, hz.1, hz.2.1, by rw [h1.length]; exact hz.2.2, fun p hp => k _ _ (same_new hp) (RK.newLst ?_ hp)⟩
    clear hz k rx ry
    generalize Int.toNat _ = n
    induction n with
    | zero => exact .nil
    | succ n ih => rw [List.replicate_succ, List.replicate_succ, List.flatten_cons, List.flatten_cons]; exact h1.append ih
  · cases hg
theorem o_div : OpR X (binaryOp .FloorDiv) (rD2 X.K dDiv .v) := by
  intro pins s σ H x y v u Q I rx ry ⟨ω, N, d, e, z, om, dom, hx, hy, hg, k⟩
  cases d <;> cases e <;> first | (cases hg; done) | skip
  cases hx.int
  cases hy.int
  simp only [dDiv] at hg
  split at hg
  · cases hg
    rename_i hz
    exact op_fdiv pins s σ H _ _ v u Q I rx ry ⟨_, _, rfl, rfl, hz, k _ H (Same.refl H) (.int _)⟩
  · cases hg
theorem o_mod : OpR X (binaryOp .Mod) (rD2 X.K dMod .v) := by
  intro pins s σ H x y v u Q I rx ry ⟨ω, N, d, e, z, om, dom, hx, hy, hg, k⟩
  cases d <;> cases e <;> first | (cases hg; done) | skip
  cases hx.int
  cases hy.int
  simp only [dMod] at hg
  split at hg
  · cases hg
    rename_i hz
    exact op_mod pins s σ H _ _ v u Q I rx ry ⟨_, _, rfl, rfl, hz, k _ H (Same.refl H) (.int _)⟩
  · cases hg
theorem o_int {op : CmpOp} {p : Int → Int → Bool} (ho : OpR X (compareOp op) (rI0 fun i j => .bl (p i j))) : OpR X (compareOp op) (rD2 X.K (dInt p) .v) := by
  intro pins s σ H x y v u Q I rx ry ⟨ω, N, d, e, z, om, dom, hx, hy, hg, k⟩
  cases d <;> cases e <;> first | (cases hg; done) | skip
  cases hx.int
  cases hy.int
  cases hg
  exact ho pins s σ H _ _ v u Q I rx ry ⟨_, _, rfl, rfl, k _ H (Same.refl H) (.bl _)⟩
theorem o_lt : OpR X (compareOp .Lt) (rD2 X.K dLt .v) := o_int op_lt
theorem o_le : OpR X (compareOp .LtE) (rD2 X.K dLe .v) := o_int op_le
theorem o_gt : OpR X (compareOp .Gt) (rD2 X.K dGt .v) := o_int op_gt
theorem o_ge : OpR X (compareOp .GtE) (rD2 X.K dGe .v) := o_int op_ge
theorem o_eq (hu : X.A.units + 64 < cLine) : OpR X (compareOp .Eq) (rD2 X.K dEq .v) := by
  intro pins s σ H x y v u Q I rx ry ⟨ω, N, d, e, z, om, dom, hx, hy, hg, k⟩
  unfold dEq at hg
  split at hg
  · cases hg
    rename_i hs
    exact op_eqD hu pins s σ H _ _ v u Q I rx ry ⟨d, e, hx.dp (shaped_noDict hs.1), hy.dp (shaped_noDict hs.2), hs.1, hs.2, k _ H (Same.refl H) (.bl _)⟩
  · cases hg
theorem o_ne (hu : X.A.units + 64 < cLine) : OpR X (compareOp .NotEq) (rD2 X.K dNe .v) := by
  intro pins s σ H x y v u Q I rx ry ⟨ω, N, d, e, z, om, dom, hx, hy, hg, k⟩
  unfold dNe at hg
  split at hg
  · cases hg
    rename_i hs
    exact op_neD hu pins s σ H _ _ v u Q I rx ry ⟨d, e, hx.dp (shaped_noDict hs.1), hy.dp (shaped_noDict hs.2), hs.1, hs.2, k _ H (Same.refl H) (.bl _)⟩
  · cases hg
theorem isNone_in {ω : Option Om} {N : Addr → Prop} {H : Hp} {v : V} {d : D} (h : InB X.K ω N H v d) : decide (v = .non) = isNone d := by
  rcases h with h | ⟨a, rfl, _, h⟩
  · cases h <;> rfl
  · cases d with
    | list _ => rfl
    | dict _ => rfl
    | _ => exact h.elim
theorem o_isN : OpR X (compareOp .Is) (rD2 X.K dIsN .v) := by
  intro pins s σ H x y v u Q I rx ry ⟨ω, N, d, e, z, om, dom, hx, hy, hg, k⟩
  unfold dIsN at hg
  split at hg
  · cases hg
    rename_i hs
    cases e <;> first | (cases hs; done) | skip
    cases hy.none
    exact op_isN pins s σ H _ _ v u Q I rx ry ⟨rfl, k _ H (Same.refl H) (by rw [isNone_in hx]; exact .bl _)⟩
  · cases hg
theorem o_notN : OpR X (compareOp .IsNot) (rD2 X.K dNotN .v) := by
  intro pins s σ H x y v u Q I rx ry ⟨ω, N, d, e, z, om, dom, hx, hy, hg, k⟩
  unfold dNotN at hg
  split at hg
  · cases hg
    rename_i hs
    cases e <;> first | (cases hs; done) | skip
    cases hy.none
    exact op_notN pins s σ H _ _ v u Q I rx ry ⟨rfl, k _ H (Same.refl H) (by rw [isNone_in hx]; exact .bl _)⟩
  · cases hg
theorem o_inG {op : CmpOp} {neg : Bool} (ho : OpR X (compareOp op) (rIn X.K neg)) : OpR X (compareOp op) (rD2 X.K (dIn neg) .v) := by
  intro pins s σ H x y v u Q I rx ry ⟨ω, N, d, e, z, om, dom, hx, hy, hg, k⟩
  cases e <;> first | (cases hg; done) | skip
  · simp only [dIn] at hg
    split at hg
    · cases hg
      rename_i hs
      obtain ⟨a, xs, rfl, ha, h1⟩ := hy.list
      exact ho pins s σ H _ _ v u Q I rx ry ⟨a, xs, rfl, .inl (.inl (.inl ha)), flat_in (hx.flat hs.1) hs.1, flats_in h1 hs.2, k _ H (Same.refl H) (by rw [inV_in (hx.flat hs.1) hs.1 h1 hs.2]; exact .bl _)⟩
    · cases hg
  · simp only [dIn] at hg
    split at hg
    · cases hg
      rename_i hs
      obtain ⟨a, xs, rfl, ha, h1⟩ := hy.tuple
      exact ho pins s σ H _ _ v u Q I rx ry ⟨a, xs, rfl, .inr ha, flat_in (hx.flat hs.1) hs.1, flats_in h1 hs.2, k _ H (Same.refl H) (by rw [inV_in (hx.flat hs.1) hs.1 h1 hs.2]; exact .bl _)⟩
    · cases hg
theorem o_in : OpR X (compareOp .In) (rD2 X.K (dIn false) .v) := o_inG op_in_seq
theorem o_notin : OpR X (compareOp .NotIn) (rD2 X.K (dIn true) .v) := o_inG op_notIn_seq
end
end DL
end
section
set_option linter.all false
set_option maxRecDepth 100000
namespace DL
open PySem PySem.Spec PyProof.Rows L2
/-! ### lists of things -/
def InBs (K : PySem.W.Frag) (ω : Option Om) (N : Addr → Prop) (H : Hp) : List V → List D → Prop := Paired fun v d => InB K ω N H v d
abbrev FL := Ev → Tr (List D)
def tL (K : PySem.W.Frag) (f : FL) : TA := fun σ H Q => ∃ ω N E b env, RepE K ω N E H b env σ ∧ (f env).All b fun ds c => ∀ vs H', Keep ω H H' → OrcO ω c H' → InAll K N H' vs ds → Q vs H'
def tLB (K : PySem.W.Frag) (f : FL) : TA := fun σ H Q => ∃ ω N E b env, RepE K ω N E H b env σ ∧ (f env).All b fun ds c => ∀ vs H', Keep ω H H' → OrcO ω c H' → InBs K ω N H' vs ds → Q vs H'
def lNil : FL := fun _ => .ret []
def lCons (f : FE) (r : FL) : FL := fun env => (f env).bind fun d => (r env).bind fun ds => .ret (d :: ds)
section
variable {X : Cx} {e : Expr} {es : List Expr} {f : FE} {r : FL} {pos : Pos}
theorem xl_nil : PA X [] (tL X.K lNil) := weakA pa_nil fun σ H Q ⟨ω, N, E, b, env, r, q⟩ => q [] H Keep.refl r.orc .nil
theorem xlb_nil : PA X [] (tLB X.K lNil) := weakA pa_nil fun σ H Q ⟨ω, N, E, b, env, r, q⟩ => q [] H Keep.refl r.orc .nil
theorem xl_cons (h : XE X .v e f) (hr : PA X es (tL X.K r)) (hs : starEach (e :: es) X.env = (false, eval e X.env) :: starEach es X.env := by rfl) : PA X (e :: es) (tL X.K (lCons f r)) := weakA (pa_cons h hr hs) fun σ H Q ⟨ω, N, E, b, env, r, q⟩ => by
  refine ⟨ω, N, E, b, env, r, Tr.All_mono ((Tr.All_bind _ _ _ _).mp q) fun x c qa v H1 k1 o1 i1 => ?_⟩
  refine ⟨ω, N, E, c, env, r.move k1 o1, Tr.All_mono ((Tr.All_bind _ _ _ _).mp qa) fun xs c2 qb vs H2 k2 o2 i2 => qb _ H2 (k1.trans k2) o2 (.cons (In.keep i1 r.om k2) i2)⟩
theorem xlb_cons (h : XE X .b e f) (hr : PA X es (tLB X.K r)) (hs : starEach (e :: es) X.env = (false, eval e X.env) :: starEach es X.env := by rfl) : PA X (e :: es) (tLB X.K (lCons f r)) := weakA (pa_cons h hr hs) fun σ H Q ⟨ω, N, E, b, env, r, q⟩ => by
  refine ⟨ω, N, E, b, env, r, Tr.All_mono ((Tr.All_bind _ _ _ _).mp q) fun x c qa v H1 k1 o1 i1 => ?_⟩
  refine ⟨ω, N, E, c, env, r.move k1 o1, Tr.All_mono ((Tr.All_bind _ _ _ _).mp qa) fun xs c2 qb vs H2 k2 o2 i2 => qb _ H2 (k1.trans k2) o2 (.cons (InB.keep i1 r.om k2) i2)⟩
/-! ### displays -/
def eTup (r : FL) : FE := fun env => (r env).bind fun ds => if ds.length ≤ sizeLine then .ret (.tuple ds) else .fail
def eLst (r : FL) : FE := fun env => (r env).bind fun ds => if ds.length ≤ sizeLine then .ret (.list ds) else .fail
theorem xe_tup {x1} (h : PA X es (tL X.K r)) : XE X .v (.Tuple es x1 pos) (eTup r) := weak (pe_tupF h) fun σ H Q ⟨ω, N, E, b, env, r, q⟩ => by
  refine ⟨ω, N, E, b, env, r, Tr.All_mono ((Tr.All_bind _ _ _ _).mp q) fun xs c qa vs H1 k1 o1 i1 => ?_⟩
  split at qa
  · rename_i hz
    exact ⟨by rw [i1.length]; exact hz, fun p o hp od => qa _ _ (k1.trans (Keep.of (same_new hp))) (o1.same (same_new hp)) (In.newTup i1 hp (r.move k1 o1).dom od)⟩
  · exact qa.elim
theorem xe_lst (h : PA X es (tL X.K r)) : XE X .o (.List es pos) (eLst r) := weak (pe_lst h) fun σ H Q ⟨ω, N, E, b, env, r, q⟩ => by
  refine ⟨ω, N, E, b, env, r, Tr.All_mono ((Tr.All_bind _ _ _ _).mp q) fun xs c qa vs H1 k1 o1 i1 => ?_⟩
  split at qa
  · rename_i hz
    exact ⟨by rw [i1.length]; exact hz, fun p hp => qa _ _ (k1.trans (Keep.of (same_new hp))) (o1.same (same_new hp)) (RK.back (ω := ω) k1 o1 (RK.newLst i1 hp))⟩
  · exact qa.elim
/-! ### built-in functions -/
def rDn (K : PySem.W.Frag) (g : List D → Option D) (kd : Kd) : List V → Hp → VK → Prop := fun vs H Q => ∃ ω N ds d, (∀ x, OmAt ω x → N x) ∧ (∀ x, N x → H x ≠ none) ∧ InBs K ω N H vs ds ∧ g ds = some d ∧
  ∀ v' H', Same H H' → RK K ω N H H' kd v' d → Q v' H'
def eCB (g : List D → Option D) (r : FL) : FE := fun env => (r env).bind fun ds => Tr.ofOpt (g ds)
theorem readN {K : PySem.W.Frag} {g : List D → Option D} {kd : Kd} {σ : L2.St} {H : Hp} {Q : VK} (h : tX K kd (eCB g r) σ H Q) : tCB (rDn K g kd) (tLB K r) σ H Q := by
  obtain ⟨ω, N, E, b, env, r, q⟩ := h
  refine ⟨ω, N, E, b, env, r, Tr.All_mono ((Tr.All_bind _ _ _ _).mp q) fun xs c qa vs H1 k1 o1 i1 => ?_⟩
  cases e : g xs with
  | none => rw [e] at qa; exact qa.elim
  | some d =>
    rw [e] at qa
    exact ⟨ω, N, xs, d, r.om, (r.move k1 o1).dom, i1, e, fun v' H' s' i' => qa v' H' (k1.trans (Keep.of s')) (o1.same s') (RK.back k1 o1 i')⟩
theorem xe_callB {x : Str} {p : Pos} {id : String} {g : List D → Option D} {kd : Kd} (hc : CallR X (.builtin id) (rDn X.K g kd)) (hg : Gl X x) (hm : X.mg x = none) (hv : bootBuiltins x = some (.builtin id)) (ha : PA X (e :: es) (tLB X.K r)) (hn : x ≠ "__name__" := by decide)
    (hdb : (x == ("__debug__" : Str)) = false := by decide) (he : starEach (e :: es) X.env = (false, eval e X.env) :: starEach es X.env := by rfl) (hpl : (backTo pos (starEach es X.env)).any (·.1) = false := by rfl) : XE X kd (.Call (.Name x p) (e :: es) [] pos) (eCB g r) :=
  weak (pe_callB hc hg hm hv ha hn hdb he hpl) fun _ _ _ h => readN h
theorem xe_callT {x : Str} {p : Pos} {T : String} {g : List D → Option D} {kd : Kd} (hc : CallR X (.type T) (rDn X.K g kd)) (hg : Gl X x) (hm : X.mg x = none) (hv : bootBuiltins x = some (.type T)) (ha : PA X (e :: es) (tLB X.K r)) (hn : x ≠ "__name__" := by decide)
    (hdb : (x == ("__debug__" : Str)) = false := by decide) (he : starEach (e :: es) X.env = (false, eval e X.env) :: starEach es X.env := by rfl) (hpl : (backTo pos (starEach es X.env)).any (·.1) = false := by rfl) : XE X kd (.Call (.Name x p) (e :: es) [] pos) (eCB g r) :=
  weak (pe_callTy hc hg hm hv ha hn hdb he hpl) fun _ _ _ h => readN h
end
theorem InBs.one {K : PySem.W.Frag} {ω : Option Om} {N : Addr → Prop} {H : Hp} {vs : List V} {d : D} (h : InBs K ω N H vs [d]) : ∃ v, vs = [v] ∧ InB K ω N H v d := by
  cases h with
  | cons a t => cases t; exact ⟨_, rfl, a⟩
theorem InBs.two {K : PySem.W.Frag} {ω : Option Om} {N : Addr → Prop} {H : Hp} {vs : List V} {d e : D} (h : InBs K ω N H vs [d, e]) : ∃ v u, vs = [v, u] ∧ InB K ω N H v d ∧ InB K ω N H u e := by
  cases h with
  | cons a t => cases t with
    | cons b t => cases t; exact ⟨_, _, rfl, a, b⟩
def dLen : List D → Option D
  | [.list ds] => some (.int (ds.length : Nat))
  | [.tuple ds] => some (.int (ds.length : Nat))
  | [.str x] => if x.length ≤ sizeLine then some (.int (x.length : Nat)) else none
  | _ => none
def dInt1 : List D → Option D
  | [.int i] => some (.int i)
  | [.bool k] => some (.int (if k then 1 else 0))
  | _ => none
def dList : List D → Option D
  | [.list ds] => some (.list ds)
  | [.tuple ds] => some (.list ds)
  | _ => none
def dTuple : List D → Option D
  | [.list ds] => some (.tuple ds)
  | [.tuple ds] => some (.tuple ds)
  | _ => none
def dMax2 : List D → Option D
  | [.int i, .int j] => some (.int (if j > i then j else i))
  | _ => none
def dMin2 : List D → Option D
  | [.int i, .int j] => some (.int (if j < i then j else i))
  | _ => none
def intOf : D → Option Int
  | .int i => some i
  | _ => none
def intsOf (ds : List D) : Option (List Int) := ds.mapM intOf
section
variable {X : Cx}
theorem c_len : CallR X (.builtin "len") (rDn X.K dLen .v) := by
  intro pins s σ H xs us Q I rx ⟨ω, N, ds, d, om, dom, hx, hg, k⟩
  match ds, hg, hx with
  | [.list es], hg, hx =>
    obtain ⟨v, rfl, h⟩ := InBs.one hx
    obtain ⟨a, ys, rfl, ha, h1⟩ := h.list
    cases hg
    exact call_len_seq pins s σ H _ us Q I rx ⟨a, ys, rfl, .inl (.inl (.inl ha)), k _ H (Same.refl H) (by rw [h1.length]; exact .int _)⟩
  | [.tuple es], hg, hx =>
    obtain ⟨v, rfl, h⟩ := InBs.one hx
    obtain ⟨a, ys, rfl, ha, h1⟩ := h.tuple
    cases hg
    exact call_len_seq pins s σ H _ us Q I rx ⟨a, ys, rfl, .inr ha, k _ H (Same.refl H) (by rw [h1.length]; exact .int _)⟩
  | [.str x], hg, hx =>
    obtain ⟨v, rfl, h⟩ := InBs.one hx
    cases h.str
    simp only [dLen] at hg
    split at hg
    · cases hg
      rename_i hz
      exact call_len_str pins s σ H _ us Q I rx ⟨x, rfl, hz, k _ H (Same.refl H) (.int _)⟩
    · cases hg
theorem c_int : CallR X (.type "int") (rDn X.K dInt1 .v) := by
  intro pins s σ H xs us Q I rx ⟨ω, N, ds, d, om, dom, hx, hg, k⟩
  match ds, hg, hx with
  | [.int i], hg, hx =>
    obtain ⟨v, rfl, h⟩ := InBs.one hx
    cases h.int
    cases hg
    exact call_int1 pins s σ H _ us Q I rx (.inl ⟨i, rfl, k _ H (Same.refl H) (.int _)⟩)
  | [.bool i], hg, hx =>
    obtain ⟨v, rfl, h⟩ := InBs.one hx
    cases h.bool
    cases hg
    exact call_int1 pins s σ H _ us Q I rx (.inr ⟨i, rfl, k _ H (Same.refl H) (.int _)⟩)
theorem c_list : CallR X (.type "list") (rDn X.K dList .o) := by
  intro pins s σ H xs us Q I rx ⟨ω, N, ds, d, om, dom, hx, hg, k⟩
  match ds, hg, hx with
  | [.list es], hg, hx =>
    obtain ⟨v, rfl, h⟩ := InBs.one hx
    obtain ⟨a, ys, rfl, ha, h1⟩ := h.list
    cases hg
    exact call_list_of pins s σ H _ us Q I rx ⟨a, ys, rfl, .inl (.inl (.inl ha)), fun p hp => k _ _ (same_new hp) (RK.newLst h1 hp)⟩
  | [.tuple es], hg, hx =>
    obtain ⟨v, rfl, h⟩ := InBs.one hx
    obtain ⟨a, ys, rfl, ha, h1⟩ := h.tuple
    cases hg
    exact call_list_of pins s σ H _ us Q I rx ⟨a, ys, rfl, .inr ha, fun p hp => k _ _ (same_new hp) (RK.newLst h1 hp)⟩
theorem c_tuple : CallR X (.type "tuple") (rDn X.K dTuple .v) := by
  intro pins s σ H xs us Q I rx ⟨ω, N, ds, d, om, dom, hx, hg, k⟩
  match ds, hg, hx with
  | [.list es], hg, hx =>
    obtain ⟨v, rfl, h⟩ := InBs.one hx
    obtain ⟨a, ys, rfl, ha, h1⟩ := h.list
    cases hg
    exact call_tupF pins s σ H _ us Q I rx ⟨a, ys, rfl, .inl ⟨.inl (.inl ha), fun p o hp od => k _ _ (same_new hp) (In.newTup h1 hp dom od)⟩⟩
  | [.tuple es], hg, hx =>
    obtain ⟨v, rfl, h⟩ := InBs.one hx
    have h0 := h
    obtain ⟨a, ys, rfl, ha, h1⟩ := h.tuple
    cases hg
    refine call_tuple_of pins s σ H _ us Q I rx ⟨a, ys, rfl, .inr ⟨ha, k _ H (Same.refl H) ?_⟩⟩
    rcases h0 with h0 | ⟨_, _, _, h0⟩
    · exact h0
    · exact h0.elim
theorem c_max2 (hc : X.calm = true) : CallR X (.builtin "max") (rDn X.K dMax2 .v) := by
  intro pins s σ H xs us Q I rx ⟨ω, N, ds, d, om, dom, hx, hg, k⟩
  match ds, hg, hx with
  | [.int i, .int j], hg, hx =>
    obtain ⟨v, u, rfl, h, h2⟩ := InBs.two hx
    cases h.int
    cases h2.int
    cases hg
    exact call_max2 hc pins s σ H _ us Q I rx ⟨i, j, rfl, k _ H (Same.refl H) (.int _)⟩
theorem c_min2 (hc : X.calm = true) : CallR X (.builtin "min") (rDn X.K dMin2 .v) := by
  intro pins s σ H xs us Q I rx ⟨ω, N, ds, d, om, dom, hx, hg, k⟩
  match ds, hg, hx with
  | [.int i, .int j], hg, hx =>
    obtain ⟨v, u, rfl, h, h2⟩ := InBs.two hx
    cases h.int
    cases h2.int
    cases hg
    exact call_min2 hc pins s σ H _ us Q I rx ⟨i, j, rfl, k _ H (Same.refl H) (.int _)⟩
end
/-! ### subscripts -/
def dIx : D → D → Option D
  | .list ds, .int i => atI ds i
  | .tuple ds, .int i => atI ds i
  | _, _ => none
theorem atI_in {K : PySem.W.Frag} {N : Addr → Prop} {H : Hp} {vs : List V} {ds : List D} (h : InAll K N H vs ds) {i : Int} {d : D} (e : atI ds i = some d) : ∃ v, atI vs i = some v ∧ In K N H v d := by
  unfold atI at e ⊢
  rw [h.length]
  cases q : ixN ds.length i with
  | none => rw [q] at e; cases e
  | some j =>
    rw [q] at e
    exact h.get' e
section
variable {X : Cx} {a b : Expr} {fa fb : FE} {pos : Pos}
theorem x_ix : IxR X (rD2 X.K dIx .v) := by
  intro value slice pins s σ H x y v u Q I rx ry ⟨ω, N, d, e, z, om, dom, hx, hy, hg, k⟩ hs
  cases d <;> cases e <;> first | (cases hg; done) | skip
  · obtain ⟨p, xs, rfl, hp, h1⟩ := hx.list
    cases hy.int
    obtain ⟨w, e1, h2⟩ := atI_in h1 hg
    exact ix_list value slice pins s σ H _ _ v u Q I rx ry ⟨p, xs, _, w, rfl, rfl, .inl (.inl hp), e1, k _ H (Same.refl H) h2⟩ hs
  · obtain ⟨p, xs, rfl, hp, h1⟩ := hx.tuple
    cases hy.int
    obtain ⟨w, e1, h2⟩ := atI_in h1 hg
    exact ix_tup value slice pins s σ H _ _ v u Q I rx ry ⟨p, xs, _, w, rfl, rfl, hp, e1, k _ H (Same.refl H) h2⟩ hs
theorem xe_ix (ha : XE X .b a fa) (hb : XE X .b b fb) (hs : PlainIx b) : XE X .v (.Subscript a b pos) (e2 dIx fa fb) := weak (pe_ix x_ix ha hb hs) fun _ _ _ h => read2 h
/-! ### slices -/
abbrev FO := Ev → Tr (Option Int)
def tO (K : PySem.W.Frag) (f : FO) : TO := fun σ H Q => ∃ ω N E b env, RepE K ω N E H b env σ ∧ (f env).All b fun d c => ∀ H', Keep ω H H' → OrcO ω c H' → Q d H'
def oNone : FO := fun _ => .ret none
def oSome (f : FE) : FO := fun env => (f env).bind fun d => match d with
  | .int i => .ret (some i)
  | _ => .fail
theorem weakO {e : Option Expr} {t t' : TO} (h : PO X e t) (k : ∀ σ H Q, t' σ H Q → t σ H Q) : PO X e t' := ⟨fun pins s σ H Q I q => h.run pins s σ H Q I (k σ H Q q)⟩
theorem xo_none : PO X none (tO X.K oNone) := weakO po_none fun σ H Q ⟨ω, N, E, b, env, r, q⟩ => q H Keep.refl r.orc
theorem xo_some (ha : XE X .b a fa) : PO X (some a) (tO X.K (oSome fa)) := weakO (po_some ha) fun σ H Q ⟨ω, N, E, b, env, r, q⟩ => by
  refine ⟨ω, N, E, b, env, r, Tr.All_mono ((Tr.All_bind _ _ _ _).mp q) fun x c qa v H1 k1 o1 i1 => ?_⟩
  cases x with
  | int i => exact ⟨i, InB.int i1, qa H1 k1 o1⟩
  | _ => exact qa.elim
def cutD (ds : List D) (lo hi : Option Int) : List D := (ds.drop (HT.sIx ds.length 0 lo)).take (HT.sIx ds.length ds.length hi - HT.sIx ds.length 0 lo)
theorem cut_in {K : PySem.W.Frag} {N : Addr → Prop} {H : Hp} {vs : List V} {ds : List D} (h : InAll K N H vs ds) (lo hi : Option Int) : InAll K N H (cutV vs lo hi) (cutD ds lo hi) := by
  unfold cutV cutD
  rw [h.length]
  exact (h.drop _).take _
def dSlL (lo hi : Option Int) : D → Option D
  | .list ds => some (.list (cutD ds lo hi))
  | _ => none
def dSlT (lo hi : Option Int) : D → Option D
  | .tuple ds => some (.tuple (cutD ds lo hi))
  | _ => none
def eSl (g : Option Int → Option Int → D → Option D) (fa : FE) (fl fh : FO) : FE := fun env => (fa env).bind fun d => (fl env).bind fun lo => (fh env).bind fun hi => Tr.ofOpt (g lo hi d)
def rDsl (K : PySem.W.Frag) (g : Option Int → Option Int → D → Option D) (kd : Kd) : V → Option Int → Option Int → Hp → VK → Prop := fun v lo hi H Q => ∃ ω N x d, (∀ x, OmAt ω x → N x) ∧ (∀ x, N x → H x ≠ none) ∧ InB K ω N H v x ∧ g lo hi x = some d ∧
  ∀ v' H', Same H H' → RK K ω N H H' kd v' d → Q v' H'
theorem x_slL : SlR X (rDsl X.K dSlL .o) := by
  intro pins s σ H x v vl vu lo hi sl Q I rx hs pl pu ⟨ω, N, d, z, om, dom, hx, hg, k⟩
  cases d <;> first | (cases hg; done) | skip
  obtain ⟨p, xs, rfl, hp, h1⟩ := hx.list
  cases hg
  exact sl_list pins s σ H _ v vl vu lo hi sl Q I rx hs pl pu ⟨p, xs, rfl, .inl (.inl hp), fun q hq => k _ _ (same_new hq) (RK.newLst (cut_in h1 lo hi) hq)⟩
theorem cut_whole {ds : List D} {lo hi : Option Int} (h : HT.sIx ds.length 0 lo = 0 ∧ HT.sIx ds.length ds.length hi = ds.length) : cutD ds lo hi = ds := by
  unfold cutD
  rw [h.1, h.2, List.drop_zero, Nat.sub_zero, List.take_length]
theorem x_slT : SlR X (rDsl X.K dSlT .v) := by
  intro pins s σ H x v vl vu lo hi sl Q I rx hs pl pu ⟨ω, N, d, z, om, dom, hx, hg, k⟩
  cases d <;> first | (cases hg; done) | skip
  have h0 := hx
  obtain ⟨p, xs, rfl, hp, h1⟩ := hx.tuple
  cases hg
  refine sl_tupF pins s σ H _ v vl vu lo hi sl Q I rx hs pl pu ⟨p, xs, rfl, hp, fun e => ?_, fun e q o hq od => k _ _ (same_new hq) (In.newTup (cut_in h1 lo hi) hq dom od)⟩
  rw [h1.length] at e
  rw [cut_whole e] at k
  rcases h0 with h0 | ⟨_, _, _, h0⟩
  · exact k _ H (Same.refl H) h0
  · exact h0.elim
theorem xe_slice {lo hi : Option Expr} {fl fh : FO} {p2 : Pos} {g : Option Int → Option Int → D → Option D} {kd : Kd} (hr : SlR X (rDsl X.K g kd)) (ha : XE X .b a fa) (hl : PO X lo (tO X.K fl)) (hh : PO X hi (tO X.K fh)) : XE X kd (.Subscript a (.Slice lo hi none p2) pos) (eSl g fa fl fh) :=
  weak (pe_slice hr ha hl hh) fun σ H Q ⟨ω, N, E, b, env, r, q⟩ => by
  refine ⟨ω, N, E, b, env, r, Tr.All_mono ((Tr.All_bind _ _ _ _).mp q) fun x c qa v H1 k1 o1 i1 => ?_⟩
  refine ⟨ω, N, E, c, env, r.move k1 o1, Tr.All_mono ((Tr.All_bind _ _ _ _).mp qa) fun l c2 qb H2 k2 o2 => ?_⟩
  refine ⟨ω, N, E, c2, env, (r.move k1 o1).move k2 o2, Tr.All_mono ((Tr.All_bind _ _ _ _).mp qb) fun u c3 qc H3 k3 o3 => ?_⟩
  cases e : g l u x with
  | none => rw [e] at qc; exact qc.elim
  | some d =>
    rw [e] at qc
    exact ⟨ω, N, x, d, r.om, (((r.move k1 o1).move k2 o2).move k3 o3).dom, InB.keep (InB.keep i1 r.om k2) r.om k3, e, fun v' H' s' i' => qc v' H' (((k1.trans k2).trans k3).trans (Keep.of s')) (o3.same s') (RK.back ((k1.trans k2).trans k3) o3 i')⟩
end
end DL
end
section
set_option linter.all false
set_option maxRecDepth 100000
namespace DL
open PySem PySem.Spec PyProof.Rows L2
/-! ### what a def promises -/
section
variable (K : PySem.W.Frag)
def SlotA (ω : Option Om) (N : Addr → Prop) (H : Hp) : Slot → V → Prop
  | .val d, v => In K N H v d
  | .own _, _ => False
  | .orc, v => ∃ w, ω = some w ∧ v = .ref w.a
def spD (k : Kd) (n : Nat) (F : List Slot → Tr D) : Sp := fun vs H Q _ => ∃ ω N b ss, ss.length = n ∧ (∀ x, OmAt ω x → N x) ∧ (∀ x, N x → H x ≠ none) ∧ OrcO ω b H ∧ Paired (SlotA K ω N H) ss vs ∧
  (F ss).All b fun d c => ∀ v H', Keep ω H H' → OrcO ω c H' → RK K ω N H H' k v d → Q v H'
abbrev FA := Ev → Tr (List Slot)
def tAs (f : FA) : TA := fun σ H Q => ∃ ω N E b env, RepE K ω N E H b env σ ∧ (f env).All b fun ss c => ∀ vs H', Keep ω H H' → OrcO ω c H' → Paired (SlotA K ω N H') ss vs → Q vs H'
end
theorem SlotA.keep {K : PySem.W.Frag} {ω : Option Om} {N : Addr → Prop} {H H' : Hp} {s : Slot} {v : V} (h : SlotA K ω N H s v) (om : ∀ x, OmAt ω x → N x) (k : Keep ω H H') : SlotA K ω N H' s v := by
  cases s with
  | val d => exact In.keep h om k
  | own d => exact h
  | orc => exact h
def aNil : FA := fun _ => .ret []
def aVal (f : FE) (r : FA) : FA := fun env => (f env).bind fun d => (r env).bind fun ss => .ret (.val d :: ss)
def aOrc (i : Nat) (r : FA) : FA := fun env => match env[i]? with
  | some (some .orc) => (r env).bind fun ss => .ret (.orc :: ss)
  | _ => .fail
section
variable {X : Cx} {e : Expr} {es : List Expr} {f : FE} {r : FA} {pos : Pos}
theorem xa_nil : PA X [] (tAs X.K aNil) := weakA pa_nil fun σ H Q ⟨ω, N, E, b, env, r, q⟩ => q [] H Keep.refl r.orc .nil
theorem xa_val (h : XE X .v e f) (hr : PA X es (tAs X.K r)) (hs : starEach (e :: es) X.env = (false, eval e X.env) :: starEach es X.env := by rfl) : PA X (e :: es) (tAs X.K (aVal f r)) := weakA (pa_cons h hr hs) fun σ H Q ⟨ω, N, E, b, env, r, q⟩ => by
  refine ⟨ω, N, E, b, env, r, Tr.All_mono ((Tr.All_bind _ _ _ _).mp q) fun x c qa v H1 k1 o1 i1 => ?_⟩
  refine ⟨ω, N, E, c, env, r.move k1 o1, Tr.All_mono ((Tr.All_bind _ _ _ _).mp qa) fun xs c2 qb vs H2 k2 o2 i2 => qb _ H2 (k1.trans k2) o2 (.cons (In.keep i1 r.om k2) i2)⟩
theorem xa_orc {i : Nat} (h : PE X e (tVar i)) (hr : PA X es (tAs X.K r)) (hs : starEach (e :: es) X.env = (false, eval e X.env) :: starEach es X.env := by rfl) : PA X (e :: es) (tAs X.K (aOrc i r)) := weakA (pa_cons h hr hs) fun σ H Q ⟨ω, N, E, b, env, r, q⟩ => by
  unfold aOrc at q
  split at q
  · rename_i ho
    obtain ⟨v, e1, w, e2, e3⟩ := r.slot i _ ho
    refine ⟨v, e1, ω, N, E, b, env, r, Tr.All_mono ((Tr.All_bind _ _ _ _).mp q) fun xs c qa vs H1 k1 o1 i1 => qa _ H1 k1 o1 (.cons ⟨w, e2, e3⟩ i1)⟩
  · exact q.elim
def eCall (F : List Slot → Tr D) (r : FA) : FE := fun env => (r env).bind F
theorem readF {F : List Slot → Tr D} {k : Kd} {n : Nat} {K : PySem.W.Frag} {σ : L2.St} {H : Hp} {Q : VK} (hn : ∀ env b P, (r env).All b P → (r env).All b fun ss c => ss.length = n ∧ P ss c) (h : tX K k (eCall F r) σ H Q) : tCall (spD K k n F) [] E0 (tAs K r) σ H Q := by
  obtain ⟨ω, N, E, b, env, r, q⟩ := h
  refine ⟨ω, N, E, b, env, r, Tr.All_mono (hn _ _ _ ((Tr.All_bind _ _ _ _).mp q)) fun ss c qa vs H1 k1 o1 i1 => ?_⟩
  obtain ⟨hl, qa⟩ := qa
  rw [List.append_nil]
  exact ⟨ω, N, c, ss, hl, r.om, (r.move k1 o1).dom, o1, i1, Tr.All_mono qa fun d c2 qb v H2 k2 o2 i2 => qb v H2 (k1.trans k2) o2 (RK.back k1 o1 i2)⟩
/-- how many arguments are written -/
def ArgN (r : FA) (n : Nat) : Prop := ∀ env b P, (r env).All b P → (r env).All b fun ss c => ss.length = n ∧ P ss c
theorem argN_nil : ArgN aNil 0 := fun _ _ _ h => ⟨rfl, h⟩
theorem argN_val {f : FE} {r : FA} {n : Nat} (h : ArgN r n) : ArgN (aVal f r) (n + 1) := fun env b P q => by
  refine (Tr.All_bind _ _ _ _).mpr (Tr.All_mono ((Tr.All_bind _ _ _ _).mp q) fun d c qa => ?_)
  refine (Tr.All_bind _ _ _ _).mpr (Tr.All_mono (h _ _ _ ((Tr.All_bind _ _ _ _).mp qa)) fun ss c2 ⟨e, qb⟩ => ⟨congrArg (· + 1) e, qb⟩)
theorem argN_orc {i : Nat} {r : FA} {n : Nat} (h : ArgN r n) : ArgN (aOrc i r) (n + 1) := fun env b P q => by
  unfold aOrc at q ⊢
  split at q
  · refine (Tr.All_bind _ _ _ _).mpr (Tr.All_mono (h _ _ _ ((Tr.All_bind _ _ _ _).mp q)) fun ss c2 ⟨e, qb⟩ => ⟨congrArg (· + 1) e, qb⟩)
  · exact q.elim
theorem xe_call {x : Str} {p : Pos} {F : List Slot → Tr D} {k : Kd} {n j : Nat} {fa : Addr} {fd : FuncData} {ps : List Str} (G : FnOk X.prog X.w X.K X.mg X.base CX0 j fa fd ps (spD X.K k n F)) (hr : Room j X.A) (hg : Gl X x) (hm : X.mg x = some (.ref fa)) (hk : PySem.W.keepIn X.K (.ref fa) = true) (hb : L2.Binds X.K fd ps [])
    (ha : PA X (e :: es) (tAs X.K r)) (hn : ArgN r n) (hdb : (x == ("__debug__" : Str)) = false := by decide) (he : starEach (e :: es) X.env = (false, eval e X.env) :: starEach es X.env := by rfl) (hpl : (backTo pos (starEach es X.env)).any (·.1) = false := by rfl) : XE X k (.Call (.Name x p) (e :: es) [] pos) (eCall F r) :=
  weak (pe_call G hr hg hm hk hb .nil pass0 ha hdb he hpl) fun _ _ _ h => readF hn h
end
/-! ### statements -/
inductive Out where
  | nx (env : Ev)
  | bk (env : Ev)
  | ct (env : Ev)
  | rv (d : D)
abbrev FS := Ev → Tr Out
section
variable (K : PySem.W.Frag)
def Pres (N N' : Addr → Prop) (H H' : Hp) : Prop := ∀ v d, In K N H v d → In K N' H' v d
def Goes (ω : Option Om) (N0 N : Addr → Prop) (E H : Hp) (env' : Ev) (c : Nat) (P : L2.St → Hp → Prop) : Prop := ∀ N' H' σ', RepE K ω N' E H' c env' σ' → (∀ x, N0 x → N' x) → Pres K N N' H H' → P σ' H'
def EndR (k : Kd) (ω : Option Om) (N0 N : Addr → Prop) (E H : Hp) (D' : Ends) : Out → Nat → Prop
  | .nx env', c => Goes K ω N0 N E H env' c D'.nx
  | .bk env', c => Goes K ω N0 N E H env' c D'.bk
  | .ct env', c => Goes K ω N0 N E H env' c D'.ct
  | .rv d, c => ∀ v H', Keep ω E H' → OrcO ω c H' → RK K ω N0 E H' k v d → D'.rt v H'
def tS (k : Kd) (f : FS) : TS := fun D' σ H => ∃ ω N0 N E b env, RepE K ω N E H b env σ ∧ (∀ x, N0 x → N x) ∧ (∀ x, N0 x → E x ≠ none) ∧ (f env).All b (EndR K k ω N0 N E H D')
end
theorem Pres.refl {K : PySem.W.Frag} {N : Addr → Prop} {H : Hp} : Pres K N N H H := fun _ _ h => h
theorem Pres.trans {K : PySem.W.Frag} {N N1 N2 : Addr → Prop} {H H1 H2 : Hp} (a : Pres K N N1 H H1) (b : Pres K N1 N2 H1 H2) : Pres K N N2 H H2 := fun v d h => b v d (a v d h)
theorem Pres.keep {K : PySem.W.Frag} {ω : Option Om} {N : Addr → Prop} {H H1 : Hp} (om : ∀ x, OmAt ω x → N x) (k : Keep ω H H1) : Pres K N N H H1 := fun v d h => h.keep om k
theorem EndR.from {K : PySem.W.Frag} {k : Kd} {ω : Option Om} {N0 N N1 : Addr → Prop} {E H H1 : Hp} {D' : Ends} {out : Out} {c : Nat} (h : EndR K k ω N0 N E H D' out c) (p : Pres K N N1 H H1) : EndR K k ω N0 N1 E H1 D' out c := by
  cases out with
  | nx env => exact fun N' H' σ' r n q => h N' H' σ' r n (p.trans q)
  | bk env => exact fun N' H' σ' r n q => h N' H' σ' r n (p.trans q)
  | ct env => exact fun N' H' σ' r n q => h N' H' σ' r n (p.trans q)
  | rv d => exact h
theorem weakS {X : Cx} {st : Stmt} {t t' : TS} (h : PS X st t) (k : ∀ D σ H, t' D σ H → t D σ H) : PS X st t' := ⟨fun pins s σ H D I q => h.run pins s σ H D I (k D σ H q)⟩
theorem weakSs {X : Cx} {st : List Stmt} {t t' : TS} (h : PSs X st t) (k : ∀ D σ H, t' D σ H → t D σ H) : PSs X st t' := ⟨fun pins s σ H D I q => h.run pins s σ H D I (k D σ H q)⟩
abbrev XS (X : Cx) (k : Kd) (st : Stmt) (f : FS) : Prop := PS X st (tS X.K k f)
abbrev XSs (X : Cx) (k : Kd) (st : List Stmt) (f : FS) : Prop := PSs X st (tS X.K k f)
def sNext : FS := fun env => .ret (.nx env)
def sSeq (f g : FS) : FS := fun env => (f env).bind fun o => match o with
  | .nx env' => g env'
  | o => .ret o
section
variable {X : Cx} {k : Kd} {st : Stmt} {rest : List Stmt} {f g : FS} {pos : Pos}
theorem xss_nil : XSs X k [] sNext := weakSs pss_nil fun D σ H ⟨ω, N0, N, E, b, env, r, n0, e0, q⟩ => q N H σ r n0 Pres.refl
theorem xss_one (h : XS X k st f) : XSs X k [st] f := pss_one h
theorem xss_cons (h : XS X k st f) (h2 : XSs X k rest g) : XSs X k (st :: rest) (sSeq f g) := weakSs (pss_cons h h2) fun D σ H ⟨ω, N0, N, E, b, env, r, n0, e0, q⟩ => by
  refine ⟨ω, N0, N, E, b, env, r, n0, e0, Tr.All_mono ((Tr.All_bind _ _ _ _).mp q) fun o c qa => ?_⟩
  cases o with
  | nx env' => exact fun N' H' σ' r' n' p => ⟨ω, N0, N', E, c, env', r', n', e0, Tr.All_mono qa fun o2 c2 qb => qb.from p⟩
  | bk env' => exact qa
  | ct env' => exact qa
  | rv d => exact qa
theorem xs_never : XS X k st (fun _ => .fail) := weakS ps_never fun D σ H ⟨ω, N0, N, E, b, env, r, n0, e0, q⟩ => q.elim
theorem xs_pass {p : Pos} : XS X k (.Pass p) sNext := weakS ps_pass fun D σ H ⟨ω, N0, N, E, b, env, r, n0, e0, q⟩ => q N H σ r n0 Pres.refl
theorem xs_break {p : Pos} : XS X k (.Break p) (fun env => .ret (.bk env)) := weakS ps_break fun D σ H ⟨ω, N0, N, E, b, env, r, n0, e0, q⟩ => q N H σ r n0 Pres.refl
theorem xs_continue {p : Pos} : XS X k (.Continue p) (fun env => .ret (.ct env)) := weakS ps_continue fun D σ H ⟨ω, N0, N, E, b, env, r, n0, e0, q⟩ => q N H σ r n0 Pres.refl
def sRet (f : FE) : FS := fun env => (f env).bind fun d => .ret (.rv d)
theorem xs_ret {e : Expr} {f : FE} (hk : k ≠ .b) (h : XE X k e f) : XS X k (.Return (some e) pos) (sRet f) := weakS (ps_ret h) fun D σ H ⟨ω, N0, N, E, b, env, r, n0, e0, q⟩ => by
  refine ⟨ω, N, E, b, env, r, Tr.All_mono ((Tr.All_bind _ _ _ _).mp q) fun d c qa v H1 k1 o1 i1 => qa v H1 (r.keep.trans k1) o1 ?_⟩
  cases k with
  | b => exact absurd rfl hk
  | v => exact In.weak i1 n0
  | o =>
    obtain ⟨p, e1, z, i1⟩ := i1
    exact ⟨p, e1, r.keep.none r.orc z, i1.mono (fun x z => .inl (z.elim (fun y => .inl (n0 x y)) .inr)) (fun _ _ e _ => e) rfl⟩
  | t =>
    obtain ⟨p, vs, ds, e1, ed, z, hp, i1⟩ := i1
    exact ⟨p, vs, ds, e1, ed, r.keep.none r.orc z, hp, i1.mono (fun x z => .inl (n0 x z)) fun x o e _ => e⟩
theorem xs_retN : XS X .v (.Return none pos) (fun _ => .ret (.rv .none)) := weakS ps_retN fun D σ H ⟨ω, N0, N, E, b, env, r, n0, e0, q⟩ => q _ H r.keep r.orc .non
/-- return x, x an own list or dict -/
def sRetOwn (i : Nat) : FS := fun env => match env[i]? with
  | some (some (.own d)) => .ret (.rv d)
  | _ => .fail
theorem xs_retOwn {e : Expr} {i : Nat} (h : PE X e (tVar i)) : XS X .o (.Return (some e) pos) (sRetOwn i) := weakS (ps_ret h) fun D σ H ⟨ω, N0, N, E, b, env, r, n0, e0, q⟩ => by
  unfold sRetOwn at q
  split at q
  · rename_i d ho
    obtain ⟨v, e1, a, e2, n, no, z, h1⟩ := r.slot i _ ho
    exact ⟨v, e1, q v H r.keep r.orc ⟨a, e2, z, h1.mono (fun x y => .inl (y.elim (n0 x) fun e => by rw [e]; exact n)) (fun _ _ e _ => e) rfl⟩⟩
  · exact q.elim
def sSet (i : Nat) (f : FE) : FS := fun env => (f env).bind fun d => .ret (.nx (env.set i (some (.val d))))
def sSetO (i : Nat) (f : FE) : FS := fun env => (f env).bind fun d => .ret (.nx (env.set i (some (.own d))))
theorem xs_set {i : Nat} {x : Str} {e : Expr} {f : FE} {pos' : Pos} (hN : X.N.Nodup) (hi : X.N[i]? = some x) (hx : Loc X.env.scope x) (h : XE X .v e f) (hs : swapsWith e (some (.Name x pos')) pos.line X.env = pure false := by rfl)
    (hf : X.fn x = true ∨ X.env.scope.names.lookup x = some .local := by first | exact .inl rfl | exact .inr rfl | assumption) : XS X k (.Assign [.Name x pos'] e pos) (sSet i f) := weakS (ps_set hN hi hx h hs hf) fun D σ H ⟨ω, N0, N, E, b, env, r, n0, e0, q⟩ => by
  refine ⟨ω, N, E, b, env, r, Tr.All_mono ((Tr.All_bind _ _ _ _).mp q) fun d c qa v H1 k1 o1 i1 => ?_⟩
  exact qa N H1 _ ((r.move k1 o1).setV i1) n0 (Pres.keep r.om k1)
theorem xs_setO {i : Nat} {x : Str} {e : Expr} {f : FE} {pos' : Pos} (hN : X.N.Nodup) (hi : X.N[i]? = some x) (hx : Loc X.env.scope x) (h : XE X .o e f) (hs : swapsWith e (some (.Name x pos')) pos.line X.env = pure false := by rfl)
    (hf : X.fn x = true ∨ X.env.scope.names.lookup x = some .local := by first | exact .inl rfl | exact .inr rfl | assumption) : XS X k (.Assign [.Name x pos'] e pos) (sSetO i f) := weakS (ps_set hN hi hx h hs hf) fun D σ H ⟨ω, N0, N, E, b, env, r, n0, e0, q⟩ => by
  refine ⟨ω, N, E, b, env, r, Tr.All_mono ((Tr.All_bind _ _ _ _).mp q) fun d c qa v H1 k1 o1 i1 => ?_⟩
  obtain ⟨p, rfl, hp, i1⟩ := i1
  refine qa (addN N p) H1 _ (r.own k1 o1 hp i1) (fun x z => .inl (n0 x z)) fun v d h => ?_
  exact h.mono (fun x z => z.elim .inl fun e => .inr (by rw [e]; exact hp)) fun x o e n => k1 x o e fun z => n (r.om x z)
def sExpr (f : FE) : FS := fun env => (f env).bind fun _ => .ret (.nx env)
theorem xs_expr {e : Expr} {f : FE} (h : XE X .b e f) (hs : swapsWith e none pos.line X.env = pure false := by rfl) : XS X k (.Expr e pos) (sExpr f) := weakS (ps_expr h hs) fun D σ H ⟨ω, N0, N, E, b, env, r, n0, e0, q⟩ => by
  refine ⟨ω, N, E, b, env, r, Tr.All_mono ((Tr.All_bind _ _ _ _).mp q) fun d c qa v H1 k1 o1 i1 => ?_⟩
  exact qa N H1 _ (r.move k1 o1) n0 (Pres.keep r.om k1)
def sIf (c : FT) (f g : FS) : FS := fun env => (c env).bind fun b => if b = true then f env else g env
theorem xs_if {c : Expr} {p q : List Stmt} {fc : FT} (hc : XT X c fc) (ha : XSs X k p f) (hb : XSs X k q g) : XS X k (.If c p q pos) (sIf fc f g) := weakS (ps_if hc ha hb) fun D σ H ⟨ω, N0, N, E, b, env, r, n0, e0, q⟩ => by
  refine ⟨ω, N, E, b, env, r, Tr.All_mono ((Tr.All_bind _ _ _ _).mp q) fun t c qa H1 k1 o1 => ?_⟩
  cases t with
  | true => exact ⟨ω, N0, N, E, c, env, r.move k1 o1, n0, e0, Tr.All_mono qa fun o c2 qb => qb.from (Pres.keep r.om k1)⟩
  | false => exact ⟨ω, N0, N, E, c, env, r.move k1 o1, n0, e0, Tr.All_mono qa fun o c2 qb => qb.from (Pres.keep r.om k1)⟩
end
end DL
end
section
set_option linter.all false
set_option maxRecDepth 100000
namespace DL
open PySem PySem.Spec PyProof.Rows L2
/-! ### an own thing is written -/
section
variable {K : PySem.W.Frag} {ω : Option Om} {N : Addr → Prop} {E H : Hp} {b : Nat} {env : Ev} {σ : L2.St}
theorem orc_upd {a : Addr} {o : HO} (h : OrcO ω b H) (ha : ¬ OmAt ω a) : OrcO ω b (upd H a o) := by
  cases ω with
  | none => trivial
  | some w =>
    obtain ⟨cells, great, n, h1, h2, h3, h4⟩ := h
    have e1 : w.a ≠ a := fun z => ha (.inl z.symm)
    have e2 : w.c ≠ a := fun z => ha (.inr (.inl z.symm))
    have e3 : w.g ≠ a := fun z => ha (.inr (.inr z.symm))
    exact ⟨cells, great, n, by rw [upd_ne e1]; exact h1, by rw [upd_ne e2]; exact h2, by rw [upd_ne e3]; exact h3, h4⟩
theorem RepE.write {i : Nat} {d d' : D} {a : Addr} {o : HO} (r : RepE K ω N E H b env σ) (hi : env[i]? = some (some (.own d))) (hs : σ[i]? = some (some (.ref a))) (na : N a) (no : ¬ OmAt ω a) (ea : E a = none) (h : OwnAt K N (upd H a o) a d') :
    RepE K ω N E (upd H a o) b (env.set i (some (.own d'))) σ := by
  have kk : ∀ x ob, H x = some ob → ¬ N x → upd H a o x = some ob := fun x ob e n => by
    rw [upd_ne (fun z => n (by rw [z]; exact na))]
    exact e
  have hl : i < env.length := by
    obtain ⟨q, _⟩ := List.getElem?_eq_some_iff.mp hi
    exact q
  refine ⟨by rw [List.length_set]; exact r.len, fun j s e => ?_, fun j k dj dk c hjk e1 e2 e3 e4 => ?_, fun x hx => ?_, r.om, orc_upd r.orc no, fun x ob e n => ?_⟩
  · by_cases z : i = j
    · subst z
      rw [List.getElem?_set_self hl] at e
      cases e
      exact ⟨_, hs, a, rfl, na, no, ea, h⟩
    · rw [List.getElem?_set_ne z] at e
      obtain ⟨v, e1, q⟩ := r.slot j s e
      refine ⟨v, e1, ?_⟩
      cases s with
      | val d => exact In.mono (fun _ z => .inl z) kk q
      | own dj =>
        obtain ⟨c, e2, n, nc, z2, q⟩ := q
        subst e2
        have nca : c ≠ a := fun y => r.sep i j d dj a z hi e (by exact hs) (by rw [← y]; exact e1)
        exact ⟨c, rfl, n, nc, z2, q.mono (fun _ z => .inl z) kk (upd_ne nca)⟩
      | orc => exact q
  · have f : ∀ (m : Nat) (dm : D), (env.set i (some (.own d')))[m]? = some (some (.own dm)) → ∃ dm', env[m]? = some (some (.own dm')) := fun m dm e => by
      by_cases z : i = m
      · subst z
        exact ⟨d, hi⟩
      · rw [List.getElem?_set_ne z] at e
        exact ⟨dm, e⟩
    obtain ⟨dj', e1⟩ := f j dj e1
    obtain ⟨dk', e2⟩ := f k dk e2
    exact r.sep j k dj' dk' c hjk e1 e2 e3 e4
  · by_cases z : x = a
    · rw [z, upd_same]; exact fun q => nomatch q
    · rw [upd_ne z]; exact r.dom x hx
  · have z : x ≠ a := fun z => by rw [z, ea] at e; cases e
    rw [upd_ne z]
    exact r.keep x ob e n
theorem pres_write {a : Addr} {o : HO} (na : N a) : Pres K N N H (upd H a o) := fun v d h => h.mono (fun _ z => .inl z) fun x ob e n => by
  rw [upd_ne (fun z => n (by rw [z]; exact na))]
  exact e
/-- an own thing is own no more -/
def frz (i : Nat) (env : Ev) : Ev := match env[i]? with
  | some (some (.own d)) => env.set i (some (.val d))
  | _ => env
theorem RepE.frz {i : Nat} (r : RepE K ω N E H b env σ) : ∃ N', RepE K ω N' E H b (frz i env) σ ∧ (∀ x, N' x → N x) ∧ (∀ x, N x → E x ≠ none → N' x) := by
  unfold DL.frz
  split
  · rename_i d hi
    obtain ⟨v, hs, a, e2, na, no, ea, h⟩ := r.slot i _ hi
    subst e2
    have hl : i < env.length := by
      obtain ⟨q, _⟩ := List.getElem?_eq_some_iff.mp hi
      exact q
    refine ⟨fun x => N x ∧ x ≠ a, ⟨by rw [List.length_set]; exact r.len, fun j s e => ?_, fun j k dj dk c hjk e1 e2 e3 e4 => ?_, fun x hx => r.dom x hx.1, fun x hx => ⟨r.om x hx, fun z => no (by rw [← z]; exact hx)⟩, r.orc, r.keep⟩, fun x hx => hx.1, fun x hx he => ⟨hx, fun z => he (by rw [z]; exact ea)⟩⟩
    · by_cases z : i = j
      · subst z
        rw [List.getElem?_set_self hl] at e
        cases e
        exact ⟨_, hs, (h.mono (N' := fun x => N x ∧ x ≠ a) (fun x z => .inl z.1) (fun _ _ e _ => e) rfl).in fun z => z.2 rfl⟩
      · rw [List.getElem?_set_ne z] at e
        obtain ⟨v, e1, q⟩ := r.slot j s e
        refine ⟨v, e1, ?_⟩
        cases s with
        | val d => exact In.weak q fun x z => z.1
        | own dj =>
          obtain ⟨c, e2, n, nc, z2, q⟩ := q
          subst e2
          exact ⟨c, rfl, ⟨n, fun y => r.sep i j d dj a z hi e hs (by rw [← y]; exact e1)⟩, nc, z2, q.mono (fun x z => .inl z.1) (fun _ _ e _ => e) rfl⟩
        | orc => exact q
    · have f : ∀ (m : Nat) (dm : D), (env.set i (some (.val d)))[m]? = some (some (.own dm)) → env[m]? = some (some (.own dm)) := fun m dm e => by
        by_cases z : i = m
        · subst z
          rw [List.getElem?_set_self hl] at e
          cases e
        · rwa [List.getElem?_set_ne z] at e
      exact r.sep j k dj dk c hjk (f j dj e1) (f k dk e2) e3 e4
  · exact ⟨N, r, fun _ h => h, fun _ h _ => h⟩
end
section
variable {X : Cx} {k : Kd} {st : Stmt} {rest : List Stmt} {f g : FS} {pos : Pos}
theorem xss_frz (i : Nat) (h : XSs X k rest f) : XSs X k rest (fun env => f (frz i env)) := weakSs h fun D' σ H ⟨ω, N0, N, E, b, env, r, n0, e0, q⟩ => by
  obtain ⟨N', r', h1, h2⟩ := r.frz (i := i)
  exact ⟨ω, N0, N', E, b, frz i env, r', fun x z => h2 x (n0 x z) (e0 x z), e0, Tr.All_mono q fun o c qo => qo.from fun v d hv => hv.weak h1⟩
/-- x.append(e) -/
def sApp (i : Nat) (f : FE) : FS := fun env => match env[i]? with
  | some (some (.own (.list ds))) => (f env).bind fun d => if ds.length < sizeLine then .ret (.nx (env.set i (some (.own (.list (ds ++ [d])))))) else .fail
  | _ => .fail
theorem xs_app {i : Nat} {f : FE} (h : PS X st (tDrop (tBM X.K "list" rAppend (tVar i) (tCons (tX X.K .v f) tNil)))) : XS X k st (sApp i f) := weakS h fun D' σ H ⟨ω, N0, N, E, b, env, r, n0, e0, q⟩ => by
  unfold sApp at q
  split at q
  · rename_i ds hi
    obtain ⟨v, hs, a, rfl, na, no, ea, xs, ha, h1⟩ := r.slot i _ hi
    refine ⟨_, hs, .inl ⟨rfl, xs, .inl (.inl ha)⟩, ω, N, E, b, env, r, Tr.All_mono ((Tr.All_bind _ _ _ _).mp q) fun d c qa v H1 k1 o1 i1 => ?_⟩
    have r1 := r.move k1 o1
    have ha1 : H1 a = some (.lst xs) := k1 _ _ ha no
    have h2 : InAll X.K N H1 xs ds := h1.keep r.om k1
    split at qa
    · rename_i hz
      refine ⟨a, xs, v, rfl, rfl, ha1, by rw [h1.length]; exact hz, ?_⟩
      refine qa N _ σ (r1.write hi hs na no ea ⟨xs ++ [v], upd_same, ?_⟩) n0 ((Pres.keep r.om k1).trans (pres_write na))
      exact (h2.append (.cons i1 .nil)).mono (fun _ z => .inl z) fun x ob e n => by
        rw [upd_ne (fun z => n (by rw [z]; exact na))]
        exact e
    · exact qa.elim
  · exact q.elim
/-- x[j] = e, x an own list -/
def sSetIx (i : Nat) (fj fv : FE) : FS := fun env => match env[i]? with
  | some (some (.own (.list ds))) => (fv env).bind fun d => (fj env).bind fun j => match j with
    | .int m => match ixN ds.length m with
      | some n => .ret (.nx (env.set i (some (.own (.list (ds.set n d))))))
      | none => .fail
    | _ => .fail
  | _ => .fail
theorem xs_setIx {i : Nat} {fj fv : FE} (h : PS X st (tAsg (tX X.K .v fv) (gSub (tVar i) (tX X.K .b fj) rSetL))) : XS X k st (sSetIx i fj fv) := weakS h fun D' σ H ⟨ω, N0, N, E, b, env, r, n0, e0, q⟩ => by
  unfold sSetIx at q
  split at q
  · rename_i ds hi
    obtain ⟨v, hs, a, rfl, na, no, ea, xs, ha, h1⟩ := r.slot i _ hi
    refine ⟨ω, N, E, b, env, r, Tr.All_mono ((Tr.All_bind _ _ _ _).mp q) fun d c qa v H1 k1 o1 i1 => ?_⟩
    have r1 := r.move k1 o1
    refine ⟨_, hs, ω, N, E, c, env, r1, Tr.All_mono ((Tr.All_bind _ _ _ _).mp qa) fun j c2 qb u H2 k2 o2 i2 => ?_⟩
    have r2 := r1.move k2 o2
    have ha2 : H2 a = some (.lst xs) := k2 _ _ (k1 _ _ ha no) no
    have h2 : InAll X.K N H2 xs ds := (h1.keep r.om k1).keep r.om k2
    cases j with
    | int m =>
      cases InB.int i2
      cases e : ixN ds.length m with
      | none => simp only [e] at qb; exact qb.elim
      | some n =>
        simp only [e] at qb
        refine ⟨a, xs, m, n, rfl, rfl, ha2, by rw [h1.length]; exact e, ?_⟩
        refine qb N _ σ (r2.write hi hs na no ea ⟨xs.set n v, upd_same, ?_⟩) n0 (((Pres.keep r.om k1).trans (Pres.keep r.om k2)).trans (pres_write na))
        exact (h2.set n (In.keep i1 r.om k2)).mono (fun _ z => .inl z) fun x ob e n => by
          rw [upd_ne (fun z => n (by rw [z]; exact na))]
          exact e
    | _ => exact qb.elim
  · exact q.elim
end
/-! ### targets -/
abbrev FG := D → Ev → Option Ev
abbrev FGs := List D → Ev → Option Ev
def tG (K : PySem.W.Frag) (f : FG) : TG := fun v σ H Q => ∃ ω N E b env d env', RepE K ω N E H b env σ ∧ In K N H v d ∧ f d env = some env' ∧ ∀ σ', RepE K ω N E H b env' σ' → Q σ' H
def tGs (K : PySem.W.Frag) (f : FGs) : TGs := fun vs σ H Q => ∃ ω N E b env ds env', RepE K ω N E H b env σ ∧ InAll K N H vs ds ∧ f ds env = some env' ∧ ∀ σ', RepE K ω N E H b env' σ' → Q σ' H
section
variable {X : Cx} {pos : Pos}
theorem weakG {e : Expr} {t t' : TG} (h : PG X e t) (k : ∀ v σ H Q, t' v σ H Q → t v σ H Q) : PG X e t' := ⟨fun pins s σ H v u Q I r q => h.run pins s σ H v u Q I r (k v σ H Q q)⟩
theorem weakGs {e : List Expr} {t t' : TGs} (h : PGs X e t) (k : ∀ v σ H Q, t' v σ H Q → t v σ H Q) : PGs X e t' := ⟨fun pins s σ H v u Q I r q => h.run pins s σ H v u Q I r (k v σ H Q q)⟩
def gN (i : Nat) : FG := fun d env => some (env.set i (some (.val d)))
theorem xg_name {i : Nat} {e : Expr} (h : PG X e (gName i)) : PG X e (tG X.K (gN i)) := weakG h fun v σ H Q ⟨ω, N, E, b, env, d, env', r, h, q, k⟩ => by
  cases q
  exact k _ (r.setV h)
def gsNil : FGs := fun ds env => match ds with
  | [] => some env
  | _ => none
def gsCons (f : FG) (g : FGs) : FGs := fun ds env => match ds with
  | d :: r => (f d env).bind fun env' => g r env'
  | _ => none
theorem xgs_nil : PGs X [] (tGs X.K gsNil) := weakGs pgs_nil fun v σ H Q ⟨ω, N, E, b, env, ds, env', r, h, q, k⟩ => by
  cases h with
  | nil => cases q; exact ⟨rfl, k σ r⟩
  | cons _ _ => cases q
theorem xgs_cons {e : Expr} {es : List Expr} {f : FG} {g : FGs} (h1 : PG X e (tG X.K f)) (h2 : PGs X es (tGs X.K g)) (hs : (assignEach (e :: es) X.env).map (·.2) = assign e X.env :: (assignEach es X.env).map (·.2) := by rfl) : PGs X (e :: es) (tGs X.K (gsCons f g)) :=
  weakGs (pgs_cons h1 h2 hs) fun v σ H Q ⟨ω, N, E, b, env, ds, env', r, h, q, k⟩ => by
  cases h with
  | nil => cases q
  | @cons v vs d ds h t =>
    have q : (f d env).bind (fun env' => g ds env') = some env' := q
    cases e1 : f d env with
    | none => rw [e1] at q; cases q
    | some env1 =>
      rw [e1] at q
      exact ⟨v, vs, rfl, ω, N, E, b, env, d, env1, r, h, e1, fun σ' r' => ⟨ω, N, E, b, env1, ds, env', r', t, q, k⟩⟩
def gT (n : Nat) (g : FGs) : FG := fun d env => match d with
  | .tuple ds => if ds.length = n then g ds env else none
  | _ => none
theorem xg_tup {es : List Expr} {k n : Nat} {g : FGs} (hc : X.calm = true) (h : PGs X es (tGs X.K g)) (hn : (assignEach es X.env).length = n := by rfl) (hst : (assignEach es X.env).findIdx? (·.1) = none := by rfl) :
    PG X (.Tuple es k pos) (tG X.K (gT n g)) := weakG (pg_tup hc h hn hst) fun v σ H Q ⟨ω, N, E, b, env, d, env', r, h, q, k⟩ => by
  cases d with
  | tuple ds =>
    obtain ⟨a, xs, rfl, ha, h1⟩ := h.tuple_inv
    simp only [gT] at q
    split at q
    · rename_i hl
      exact ⟨a, xs, rfl, ha, by rw [h1.length]; exact hl, ω, N, E, b, env, ds, env', r, h1, q, k⟩
    · cases q
  | _ => cases q
/-- target = e -/
def sAsg (f : FE) (g : FG) : FS := fun env => (f env).bind fun d => match g d env with
  | some env' => .ret (.nx env')
  | none => .fail
theorem xs_asg {k : Kd} {st : Stmt} {f : FE} {g : FG} (h : PS X st (tAsg (tX X.K .v f) (tG X.K g))) : XS X k st (sAsg f g) := weakS h fun D' σ H ⟨ω, N0, N, E, b, env, r, n0, e0, q⟩ => by
  refine ⟨ω, N, E, b, env, r, Tr.All_mono ((Tr.All_bind _ _ _ _).mp q) fun d c qa v H1 k1 o1 i1 => ?_⟩
  cases e : g d env with
  | none => simp only [e] at qa; exact qa.elim
  | some env' =>
    simp only [e] at qa
    exact ⟨ω, N, E, c, env, d, env', r.move k1 o1, i1, e, fun σ' r' => qa N H1 σ' r' n0 (Pres.keep r.om k1)⟩
end
/-! ### for -/
def forD (tgt : FG) (body : FS) : List D → FS
  | [], env => .ret (.nx env)
  | d :: ds, env => match tgt d env with
    | some env1 => (body env1).bind fun o => match o with
      | .nx env' => forD tgt body ds env'
      | .ct env' => forD tgt body ds env'
      | .bk env' => .ret (.nx env')
      | .rv x => .ret (.rv x)
    | none => .fail
def sForL (f : FE) (tgt : FG) (body : FS) : FS := fun env => (f env).bind fun d => match d with
  | .list ds => forD tgt body ds env
  | _ => .fail
def sForT (f : FE) (tgt : FG) (body : FS) : FS := fun env => (f env).bind fun d => match d with
  | .tuple ds => forD tgt body ds env
  | _ => .fail
def rngD (lo : Int) (n : Nat) : List D := (List.range n).map fun i => .int (lo + (i : Nat))
def ok62 (i : Int) : Bool := decide (-(2 ^ 62) ≤ i ∧ i < 2 ^ 62)
/-- range(..) of one or two rngD: where it begins, how many -/
def rngOf : List D → Option (Int × Nat)
  | [.int j] => if ok62 j = true then some (0, j.toNat) else none
  | [.int i, .int j] => if ok62 i = true ∧ ok62 j = true then some (i, (j - i).toNat) else none
  | _ => none
def sForR (r : FL) (tgt : FG) (body : FS) : FS := fun env => (r env).bind fun ds => match rngOf ds with
  | some (lo, n) => forD tgt body (rngD lo n) env
  | none => .fail
section
variable {X : Cx} {k : Kd} {st : Stmt} {pos : Pos}
/-- one turn of a loop over items -/
theorem turn_for {K : PySem.W.Frag} {k : Kd} {ω : Option Om} {N0 N N1 : Addr → Prop} {E H H1 : Hp} {D' : Ends} {tgt : FG} {body : FS} {d : D} {ds : List D} {env : Ev} {σ : L2.St} {b : Nat} {v : V} {W : L2.St → Hp → Prop}
    (r : RepE K ω N1 E H1 b env σ) (n0 : ∀ x, N0 x → N1 x) (e0 : ∀ x, N0 x → E x ≠ none) (p : Pres K N N1 H H1) (hv : In K N1 H1 v d) (q : (forD tgt body (d :: ds) env).All b (EndR K k ω N0 N E H D'))
    (hW : ∀ N2 H2 σ2 c env2, RepE K ω N2 E H2 c env2 σ2 → (∀ x, N0 x → N2 x) → Pres K N1 N2 H1 H2 → (forD tgt body ds env2).All c (EndR K k ω N0 N E H D') → W σ2 H2) :
    tG K tgt v σ H1 fun σ2 H2 => tS K k body { D' with nx := W, ct := W, bk := D'.nx } σ2 H2 := by
  have q : (match tgt d env with
    | some env1 => (body env1).bind fun o => match o with
      | .nx env' => forD tgt body ds env'
      | .ct env' => forD tgt body ds env'
      | .bk env' => .ret (.nx env')
      | .rv x => .ret (.rv x)
    | none => .fail : Tr Out).All b (EndR K k ω N0 N E H D') := q
  cases e : tgt d env with
  | none => simp only [e] at q; exact q.elim
  | some env1 =>
    simp only [e] at q
    refine ⟨ω, N1, E, b, env, d, env1, r, hv, e, fun σ' r' => ⟨ω, N0, N1, E, b, env1, r', n0, e0, Tr.All_mono ((Tr.All_bind _ _ _ _).mp q) fun o c qa => ?_⟩⟩
    cases o with
    | nx env2 => exact fun N2 H2 σ2 r2 n2 p2 => hW N2 H2 σ2 c env2 r2 n2 p2 qa
    | ct env2 => exact fun N2 H2 σ2 r2 n2 p2 => hW N2 H2 σ2 c env2 r2 n2 p2 qa
    | bk env2 => exact fun N2 H2 σ2 r2 n2 p2 => qa N2 H2 σ2 r2 n2 (p.trans p2)
    | rv x => exact qa
theorem all_pres {K : PySem.W.Frag} {N N1 : Addr → Prop} {H H1 : Hp} (p : Pres K N N1 H H1) : ∀ {vs : List V} {ds : List D}, InAll K N H vs ds → InAll K N1 H1 vs ds
  | _, _, .nil => .nil
  | _, _, .cons h t => .cons (p _ _ h) (all_pres p t)
theorem xs_forL {f : FE} {tgt : FG} {body : FS} (h : PS X st (tFor (iList X.K (tX X.K .v f)) (tG X.K tgt) (tS X.K k body))) : XS X k st (sForL f tgt body) :=
  weakS h fun D' σ H ⟨ω, N0, N, E, b, env, r, n0, e0, q⟩ => by
  refine ⟨ω, N, E, b, env, r, Tr.All_mono ((Tr.All_bind _ _ _ _).mp q) fun d c qa v H1 k1 o1 i1 => ?_⟩
  cases d with
  | list ds =>
    obtain ⟨a, xs, rfl, ha, h1⟩ := In.list_inv i1
    have qa : (forD tgt body ds env).All c (EndR X.K k ω N0 N E H D') := qa
    refine ⟨a, rfl, ⟨xs, .inl (.inl ha)⟩, fun i m σ2 H2 => ∃ N2 c2 env2, RepE X.K ω N2 E H2 c2 env2 σ2 ∧ (∀ x, N0 x → N2 x) ∧ Pres X.K N N2 H H2 ∧ In X.K N2 H2 (.ref a) (.list ds) ∧ i + m = ds.length ∧ (forD tgt body (ds.drop i) env2).All c2 (EndR X.K k ω N0 N E H D'),
      ⟨ds.length, N, c, env, r.move k1 o1, n0, Pres.keep r.om k1, i1, Nat.zero_add _, qa⟩, fun i m σ2 H2 ⟨N2, c2, env2, r2, n2, p2, hin, em, q2⟩ => ?_⟩
    obtain ⟨a', xs2, ea, ha2, h2⟩ := hin.list_inv
    cases ea
    by_cases hi : i < ds.length
    · have hx : i < xs2.length := by rw [h2.length]; exact hi
      rw [List.drop_eq_getElem_cons hi] at q2
      refine .inr ⟨⟨xs2, xs2[i], .inl (.inl ha2), List.getElem?_eq_getElem hx⟩, fun σ3 H3 => ∃ N3 c3 env3, RepE X.K ω N3 E H3 c3 env3 σ3 ∧ (∀ x, N0 x → N3 x) ∧ Pres X.K N N3 H H3 ∧ In X.K N3 H3 (.ref a) (.list ds) ∧ (forD tgt body (ds.drop (i + 1)) env3).All c3 (EndR X.K k ω N0 N E H D'),
        fun σ3 H3 ⟨N3, c3, env3, r3, n3, p3, hin3, q3⟩ => ⟨m - 1, by omega, N3, c3, env3, r3, n3, p3, hin3, by omega, q3⟩, fun x H3 ⟨eH, hy⟩ => ?_⟩
      subst eH
      have ex := hy _ (.inl (.inl ha2))
      obtain ⟨d, ed, hd⟩ := h2.get ex
      rw [List.getElem?_eq_getElem hi] at ed
      cases ed
      exact turn_for r2 n2 e0 p2 hd q2 fun N3 H4 σ3 c3 env3 r3 n3 p3 q3 => ⟨N3, c3, env3, r3, n3, p2.trans p3, p3 _ _ hin, q3⟩
    · refine .inl ⟨⟨xs2, .inl (.inl ha2), by rw [h2.length]; omega⟩, ?_⟩
      rw [List.drop_eq_nil_of_le (by omega)] at q2
      exact q2 N2 H2 σ2 r2 n2 p2
  | _ => exact qa.elim
theorem xs_forT {f : FE} {tgt : FG} {body : FS} (h : PS X st (tFor (iTup X.K (tX X.K .v f)) (tG X.K tgt) (tS X.K k body))) : XS X k st (sForT f tgt body) :=
  weakS h fun D' σ H ⟨ω, N0, N, E, b, env, r, n0, e0, q⟩ => by
  refine ⟨ω, N, E, b, env, r, Tr.All_mono ((Tr.All_bind _ _ _ _).mp q) fun d c qa v H1 k1 o1 i1 => ?_⟩
  cases d with
  | tuple ds =>
    obtain ⟨a, xs, rfl, ha, h1⟩ := In.tuple_inv i1
    have qa : (forD tgt body ds env).All c (EndR X.K k ω N0 N E H D') := qa
    refine ⟨a, rfl, ⟨xs, ha⟩, fun i m σ2 H2 => ∃ N2 c2 env2, RepE X.K ω N2 E H2 c2 env2 σ2 ∧ (∀ x, N0 x → N2 x) ∧ Pres X.K N N2 H H2 ∧ In X.K N2 H2 (.ref a) (.tuple ds) ∧ i + m = ds.length ∧ (forD tgt body (ds.drop i) env2).All c2 (EndR X.K k ω N0 N E H D'),
      ⟨ds.length, N, c, env, r.move k1 o1, n0, Pres.keep r.om k1, i1, Nat.zero_add _, qa⟩, fun i m σ2 H2 ⟨N2, c2, env2, r2, n2, p2, hin, em, q2⟩ => ?_⟩
    obtain ⟨a', xs2, ea, ha2, h2⟩ := hin.tuple_inv
    cases ea
    by_cases hi : i < ds.length
    · have hx : i < xs2.length := by rw [h2.length]; exact hi
      rw [List.drop_eq_getElem_cons hi] at q2
      refine .inr ⟨⟨xs2, xs2[i], ha2, List.getElem?_eq_getElem hx⟩, fun σ3 H3 => ∃ N3 c3 env3, RepE X.K ω N3 E H3 c3 env3 σ3 ∧ (∀ x, N0 x → N3 x) ∧ Pres X.K N N3 H H3 ∧ In X.K N3 H3 (.ref a) (.tuple ds) ∧ (forD tgt body (ds.drop (i + 1)) env3).All c3 (EndR X.K k ω N0 N E H D'),
        fun σ3 H3 ⟨N3, c3, env3, r3, n3, p3, hin3, q3⟩ => ⟨m - 1, by omega, N3, c3, env3, r3, n3, p3, hin3, by omega, q3⟩, fun x H3 ⟨eH, hy⟩ => ?_⟩
      subst eH
      have ex := hy _ ha2
      obtain ⟨d, ed, hd⟩ := h2.get ex
      rw [List.getElem?_eq_getElem hi] at ed
      cases ed
      exact turn_for r2 n2 e0 p2 hd q2 fun N3 H4 σ3 c3 env3 r3 n3 p3 q3 => ⟨N3, c3, env3, r3, n3, p2.trans p3, p3 _ _ hin, q3⟩
    · refine .inl ⟨⟨xs2, ha2, by rw [h2.length]; omega⟩, ?_⟩
      rw [List.drop_eq_nil_of_le (by omega)] at q2
      exact q2 N2 H2 σ2 r2 n2 p2
  | _ => exact qa.elim
theorem rngD_len (lo : Int) (n : Nat) : (rngD lo n).length = n := by unfold rngD; rw [List.length_map, List.length_range]
theorem rngD_at (lo : Int) (n i : Nat) (h : i < n) : (rngD lo n)[i]? = some (.int (lo + (i : Nat))) := by
  unfold rngD
  rw [List.getElem?_map, List.getElem?_range h]
  rfl
theorem walk_rng {K : PySem.W.Frag} {ω : Option Om} {N0 N : Addr → Prop} {E H : Hp} {D' : Ends} {tgt : FG} {body : FS} {env : Ev} {σ : L2.St} {b : Nat} {lo : Int} {n : Nat}
    (r : RepE K ω N E H b env σ) (n0 : ∀ x, N0 x → N x) (e0 : ∀ x, N0 x → E x ≠ none) {H0 : Hp} {NN : Addr → Prop} (p : Pres K NN N H0 H) (q : (forD tgt body (rngD lo n) env).All b (EndR K k ω N0 NN E H0 D')) :
    ∃ W : Nat → Nat → L2.St → Hp → Prop, (∃ m, W 0 m σ H) ∧ ∀ i m σ H, W i m σ H →
      ((Itr lo n).stop i H ∧ D'.nx σ H) ∨ ((Itr lo n).go i H ∧ ∃ N : L2.St → Hp → Prop, (∀ σ' H', N σ' H' → ∃ m', m' < m ∧ W (i + 1) m' σ' H') ∧ ∀ x H', (Itr lo n).yld i H x H' → tG K tgt x σ H' fun σ2 H2 => tS K k body { D' with nx := N, ct := N, bk := D'.nx } σ2 H2) := by
  refine ⟨fun i m σ2 H2 => ∃ N2 c2 env2, RepE K ω N2 E H2 c2 env2 σ2 ∧ (∀ x, N0 x → N2 x) ∧ Pres K NN N2 H0 H2 ∧ i + m = n ∧ (forD tgt body ((rngD lo n).drop i) env2).All c2 (EndR K k ω N0 NN E H0 D'),
    ⟨n, N, b, env, r, n0, p, Nat.zero_add _, q⟩, fun i m σ2 H2 ⟨N2, c2, env2, r2, n2, p2, em, q2⟩ => ?_⟩
  by_cases hi : i < n
  · have hi' : i < (rngD lo n).length := by rw [rngD_len]; exact hi
    rw [List.drop_eq_getElem_cons hi'] at q2
    have e0' : (rngD lo n)[i] = .int (lo + (i : Nat)) := Option.some.inj ((List.getElem?_eq_getElem hi').symm.trans (rngD_at lo n i hi))
    rw [e0'] at q2
    refine .inr ⟨hi, fun σ3 H3 => ∃ N3 c3 env3, RepE K ω N3 E H3 c3 env3 σ3 ∧ (∀ x, N0 x → N3 x) ∧ Pres K NN N3 H0 H3 ∧ (forD tgt body ((rngD lo n).drop (i + 1)) env3).All c3 (EndR K k ω N0 NN E H0 D'),
      fun σ3 H3 ⟨N3, c3, env3, r3, n3, p3, q3⟩ => ⟨m - 1, by omega, N3, c3, env3, r3, n3, p3, by omega, q3⟩, fun x H3 ⟨eH, hy⟩ => ?_⟩
    subst eH
    subst hy
    exact turn_for r2 n2 e0 p2 (.int _) q2 fun N3 H4 σ3 c3 env3 r3 n3 p3 q3 => ⟨N3, c3, env3, r3, n3, p2.trans p3, q3⟩
  · refine .inl ⟨by show n ≤ i; omega, ?_⟩
    rw [List.drop_eq_nil_of_le (by rw [rngD_len]; omega)] at q2
    exact q2 N2 H2 σ2 r2 n2 p2
theorem xs_forR1 {r : FL} {tgt : FG} {body : FS} (h : PS X st (tFor (iRng1 (tLB X.K r)) (tG X.K tgt) (tS X.K k body))) (h1 : ∀ env b P, (r env).All b P → (r env).All b fun ds c => ds.length = 1 ∧ P ds c) : XS X k st (sForR r tgt body) :=
  weakS h fun D' σ H ⟨ω, N0, N, E, b, env, r, n0, e0, q⟩ => by
  refine ⟨ω, N, E, b, env, r, Tr.All_mono (h1 _ _ _ ((Tr.All_bind _ _ _ _).mp q)) fun ds c ⟨hl, qa⟩ vs H1 k1 o1 i1 => ?_⟩
  match ds, hl, qa, i1 with
  | [d], _, qa, i1 =>
    obtain ⟨v, rfl, iv⟩ := InBs.one i1
    cases d with
    | int j =>
      cases iv.int
      simp only [rngOf] at qa
      by_cases hz : ok62 j = true
      · rw [if_pos hz] at qa
        have hz' := of_decide_eq_true hz
        exact ⟨j, rfl, hz'.1, hz'.2, walk_rng (r.move k1 o1) n0 e0 (Pres.keep r.om k1) qa⟩
      · rw [if_neg hz] at qa
        exact qa.elim
    | _ => exact qa.elim
theorem xs_forR2 {r : FL} {tgt : FG} {body : FS} (h : PS X st (tFor (iRng2 (tLB X.K r)) (tG X.K tgt) (tS X.K k body))) (h1 : ∀ env b P, (r env).All b P → (r env).All b fun ds c => ds.length = 2 ∧ P ds c) : XS X k st (sForR r tgt body) :=
  weakS h fun D' σ H ⟨ω, N0, N, E, b, env, r, n0, e0, q⟩ => by
  refine ⟨ω, N, E, b, env, r, Tr.All_mono (h1 _ _ _ ((Tr.All_bind _ _ _ _).mp q)) fun ds c ⟨hl, qa⟩ vs H1 k1 o1 i1 => ?_⟩
  match ds, hl, qa, i1 with
  | [d, d2], _, qa, i1 =>
    obtain ⟨v, u, rfl, iv, iu⟩ := InBs.two i1
    cases d with
    | int i =>
      cases d2 with
      | int j =>
        cases iv.int
        cases iu.int
        simp only [rngOf] at qa
        by_cases hz : ok62 i = true ∧ ok62 j = true
        · rw [if_pos hz] at qa
          have hz1 := of_decide_eq_true hz.1
          have hz2 := of_decide_eq_true hz.2
          exact ⟨i, j, rfl, ⟨hz1.1, hz1.2, hz2.1, hz2.2⟩, walk_rng (r.move k1 o1) n0 e0 (Pres.keep r.om k1) qa⟩
        · rw [if_neg hz] at qa
          exact qa.elim
      | _ => exact qa.elim
    | _ => exact qa.elim
end
theorem lenN_nil : ∀ env b (P : List D → Nat → Prop), (lNil env).All b P → (lNil env).All b fun ds c => ds.length = 0 ∧ P ds c := fun _ _ _ h => ⟨rfl, h⟩
theorem lenN_cons {f : FE} {r : FL} {n : Nat} (h : ∀ env b (P : List D → Nat → Prop), (r env).All b P → (r env).All b fun ds c => ds.length = n ∧ P ds c) : ∀ env b (P : List D → Nat → Prop), (lCons f r env).All b P → (lCons f r env).All b fun ds c => ds.length = n + 1 ∧ P ds c := fun env b P q => by
  refine (Tr.All_bind _ _ _ _).mpr (Tr.All_mono ((Tr.All_bind _ _ _ _).mp q) fun d c qa => ?_)
  exact (Tr.All_bind _ _ _ _).mpr (Tr.All_mono (h _ _ _ ((Tr.All_bind _ _ _ _).mp qa)) fun ss c2 ⟨e, qb⟩ => ⟨congrArg (· + 1) e, qb⟩)
end DL
end
section
set_option linter.all false
set_option maxRecDepth 100000
namespace DL
open PySem PySem.Spec PyProof.Rows L2
/-! ### while -/
def whileD (t : FT) (body : FS) : Nat → FS
  | 0, _ => .fail
  | n + 1, env => (t env).bind fun b => if b = true then (body env).bind fun o => match o with
      | .nx env' => whileD t body n env'
      | .ct env' => whileD t body n env'
      | .bk env' => .ret (.nx env')
      | .rv x => .ret (.rv x)
    else .ret (.nx env)
section
variable {X : Cx} {k : Kd} {st : Stmt} {pos : Pos}
theorem xs_while (n : Nat) {t : FT} {body : FS} (h : PS X st (tWhile (tY X.K t) (tS X.K k body))) : XS X k st (whileD t body n) := weakS h fun D' σ H ⟨ω, N0, N, E, b, env, r, n0, e0, q⟩ => by
  refine ⟨fun m σ2 H2 => ∃ N2 c2 env2, RepE X.K ω N2 E H2 c2 env2 σ2 ∧ (∀ x, N0 x → N2 x) ∧ Pres X.K N N2 H H2 ∧ (whileD t body m env2).All c2 (EndR X.K k ω N0 N E H D'), ⟨n, N, b, env, r, n0, Pres.refl, q⟩, fun m σ2 H2 ⟨N2, c2, env2, r2, n2, p2, q2⟩ => ?_⟩
  cases m with
  | zero => exact q2.elim
  | succ m =>
    refine ⟨ω, N2, E, c2, env2, r2, Tr.All_mono ((Tr.All_bind _ _ _ _).mp q2) fun d c qa H3 k3 o3 => ?_⟩
    have r3 := r2.move k3 o3
    have p3 := p2.trans (Pres.keep r2.om k3)
    cases d with
    | true =>
      refine ⟨fun σ4 H4 => ∃ N4 c4 env4, RepE X.K ω N4 E H4 c4 env4 σ4 ∧ (∀ x, N0 x → N4 x) ∧ Pres X.K N N4 H H4 ∧ (whileD t body m env4).All c4 (EndR X.K k ω N0 N E H D'), fun σ4 H4 z => ⟨m, Nat.lt_succ_self m, z⟩, ?_⟩
      refine ⟨ω, N0, N2, E, c, env2, r3, n2, e0, Tr.All_mono ((Tr.All_bind _ _ _ _).mp qa) fun o c4 qb => ?_⟩
      cases o with
      | nx env' => exact fun N4 H4 σ4 r4 n4 p4 => ⟨N4, c4, env', r4, n4, p3.trans p4, qb⟩
      | ct env' => exact fun N4 H4 σ4 r4 n4 p4 => ⟨N4, c4, env', r4, n4, p3.trans p4, qb⟩
      | bk env' => exact fun N4 H4 σ4 r4 n4 p4 => qb N4 H4 σ4 r4 n4 (p3.trans p4)
      | rv x => exact qb
    | false => exact qa N2 H3 σ2 r3 n2 p3
end
/-! ### comprehensions -/
def wipeE (env : Ev) : List Nat → Ev
  | [] => env
  | v :: vs => (wipeE env vs).set v none
def compD (tgt : FG) (t : FT) (f : FE) (env : Ev) : List D → Tr (List D)
  | [] => .ret []
  | d :: ds => match tgt d env with
    | some env1 => (t env1).bind fun b => if b = true then (f env1).bind fun y => (compD tgt t f env ds).bind fun ys => .ret (y :: ys) else compD tgt t f env ds
    | none => .fail
def endComp (tgt : FG) (t : FT) (f : FE) (env : Ev) (ds : List D) : Tr D := if ds.length ≤ sizeLine then (compD tgt t f env ds).bind fun ys => .ret (.list ys) else .fail
section
variable {K : PySem.W.Frag} {ω : Option Om} {N : Addr → Prop} {E H H' : Hp} {b c : Nat} {env : Ev} {σ : L2.St}
theorem RepE.more {p : Addr} (r : RepE K ω N E H b env σ) (hk : Keep ω H H') (ho : OrcO ω c H') (hp : H p = none) (ep : H' p ≠ none) : RepE K ω (addN N p) E H' c env σ := by
  have np : ¬ N p := fun z => r.dom p z hp
  have kk : ∀ x o, H x = some o → ¬ N x → H' x = some o := fun x o e n => hk x o e fun z => n (r.om x z)
  exact {
    len := r.len
    slot := fun j s e => by
      obtain ⟨v, e1, q⟩ := r.slot j s e
      refine ⟨v, e1, ?_⟩
      cases s with
      | val d => exact In.mono (fun x z => z.elim .inl fun e => .inr (by rw [e]; exact hp)) kk q
      | own d =>
        obtain ⟨a, e2, n, no, z, q⟩ := q
        obtain ⟨oa, ea⟩ := q.there
        exact ⟨a, e2, .inl n, no, z, q.mono (fun x z => z.elim .inl fun e => .inr (by rw [e]; exact hp)) kk ((hk a oa ea no).trans ea.symm)⟩
      | orc => exact q
    sep := r.sep
    dom := fun x hx => by
      rcases hx with hx | rfl
      · exact (r.move hk ho).dom x hx
      · exact ep
    om := fun x z => .inl (r.om x z)
    orc := ho
    keep := r.keep.trans hk }
theorem wipeE_some {i : Nat} {s : Slot} : ∀ {vs : List Nat}, (wipeE env vs)[i]? = some (some s) → env[i]? = some (some s) ∧ i ∉ vs
  | [], h => ⟨h, by simp⟩
  | v :: vs, h => by
    unfold wipeE at h
    by_cases hi : v = i
    · subst hi
      by_cases hv : v < (wipeE env vs).length
      · rw [List.getElem?_set_self hv] at h; cases h
      · rw [List.getElem?_eq_none (by simpa using hv)] at h; cases h
    · rw [List.getElem?_set_ne hi] at h
      obtain ⟨h1, h2⟩ := wipeE_some h
      exact ⟨h1, by simp only [List.mem_cons, not_or]; exact ⟨fun e => hi e.symm, h2⟩⟩
theorem wipeE_length : ∀ vs : List Nat, (wipeE env vs).length = env.length
  | [] => rfl
  | v :: vs => by unfold wipeE; rw [List.length_set, wipeE_length vs]
theorem wipe_at {i : Nat} : ∀ {vs : List Nat}, i ∉ vs → (wipe σ vs)[i]? = σ[i]?
  | [], _ => rfl
  | v :: vs, h => by
    unfold wipe
    rw [List.getElem?_set_ne (fun e => h (by rw [e]; exact List.mem_cons_self)), wipe_at (fun z => h (List.mem_cons_of_mem _ z))]
theorem RepE.wipe (r : RepE K ω N E H b env σ) (vs : List Nat) : RepE K ω N E H b (wipeE env vs) (wipe σ vs) := by
  refine ⟨by rw [wipe_length, wipeE_length]; exact r.len, fun i s e => ?_, fun i j di dj a hij e1 e2 e3 e4 => ?_, r.dom, r.om, r.orc, r.keep⟩
  · obtain ⟨e1, hi⟩ := wipeE_some e
    obtain ⟨v, e2, q⟩ := r.slot i s e1
    exact ⟨v, by rw [wipe_at hi]; exact e2, q⟩
  · obtain ⟨e1, hi⟩ := wipeE_some e1
    obtain ⟨e2, hj⟩ := wipeE_some e2
    rw [wipe_at hi] at e3
    rw [wipe_at hj] at e4
    exact r.sep i j di dj a hij e1 e2 e3 e4
theorem wipe_eq {τ : L2.St} : ∀ {vs : List Nat}, τ.length = σ.length → (∀ i, i ∉ vs → τ[i]? = σ[i]?) → wipe τ vs = wipe σ vs := fun {vs} hl h => by
  apply List.ext_getElem?
  intro i
  by_cases hi : i ∈ vs
  · have f : ∀ (ρ : L2.St) (vs : List Nat), i ∈ vs → (wipe ρ vs)[i]? = if i < ρ.length then some none else none := by
      intro ρ vs
      induction vs with
      | nil => intro h; cases h
      | cons v vs ih =>
        intro hm
        unfold wipe
        by_cases hv : v = i
        · subst hv
          rw [List.getElem?_set_self', ← wipe_length ρ vs]
          by_cases hlt : v < (wipe ρ vs).length
          · rw [List.getElem?_eq_getElem hlt, if_pos hlt]
            rfl
          · rw [List.getElem?_eq_none (by simpa using hlt), if_neg hlt]
            rfl
        · rw [List.getElem?_set_ne hv]
          exact ih (by rcases List.mem_cons.mp hm with e | e; exact absurd e.symm hv; exact e)
    rw [f τ vs hi, f σ vs hi, hl]
  · rw [wipe_at hi, wipe_at hi]
    exact h i hi
/-- a target of names within vs: what it leaves of the frame -/
def OwnTg (K : PySem.W.Frag) (g : TG) (tgt : FG) (vs : List Nat) : Prop := ∀ (ω : Option Om) (N : Addr → Prop) (E H : Hp) (b : Nat) (env env' : Ev) (σ : L2.St) (v : V) (d : D) (Q : L2.St → Hp → Prop),
  RepE K ω N E H b env σ → In K N H v d → tgt d env = some env' → (∀ σ', RepE K ω N E H b env' σ' → σ'.length = σ.length → (∀ i, i ∉ vs → σ'[i]? = σ[i]?) → Q σ' H) → g v σ H Q
theorem own_name (i : Nat) : OwnTg K (gName i) (gN i) [i] := fun ω N E H b env env' σ v d Q r h e k => by
  cases e
  exact k _ (r.setV h) (List.length_set ..) fun j hj => List.getElem?_set_ne fun e => hj (by rw [e]; exact List.mem_cons_self)
theorem two_inv {i j : Nat} {x y : D} {env env' : Ev} (e : gT 2 (gsCons (gN i) (gsCons (gN j) gsNil)) (.tuple [x, y]) env = some env') : env' = (env.set i (some (.val x))).set j (some (.val y)) := by
  have e2 : some ((env.set i (some (.val x))).set j (some (.val y))) = some env' := e
  exact (Option.some.inj e2).symm
theorem two_len {i j : Nat} {ds : List D} {env env' : Ev} (e : gT 2 (gsCons (gN i) (gsCons (gN j) gsNil)) (.tuple ds) env = some env') : ds.length = 2 := by
  by_cases h : ds.length = 2
  · exact h
  · have e2 : (if ds.length = 2 then gsCons (gN i) (gsCons (gN j) gsNil) ds env else none) = some env' := e
    rw [if_neg h] at e2
    cases e2
theorem own_two (i j : Nat) : OwnTg K (gTup K 2 (gCons (gName i) (gCons (gName j) gNil))) (gT 2 (gsCons (gN i) (gsCons (gN j) gsNil))) [i, j] := fun ω N E H b env env' σ v d Q r h e k => by
  cases d with
  | tuple ds =>
    obtain ⟨a, xs, rfl, ha, h1⟩ := h.tuple_inv
    have hl := two_len e
    match ds, hl with
    | [x, y], _ =>
      have e' := two_inv e
      subst e'
      cases h1 with
      | @cons u vs _ _ hu t =>
        cases t with
        | @cons w ws _ _ hw t =>
          cases t
          refine ⟨a, [u, w], rfl, ha, rfl, u, [w], rfl, w, [], rfl, rfl, k _ ((r.setV hu).setV hw) (by rw [List.length_set, List.length_set]) fun m hm => ?_⟩
          rw [List.getElem?_set_ne (fun e => hm (by rw [← e]; exact List.mem_cons_of_mem _ List.mem_cons_self)), List.getElem?_set_ne (fun e => hm (by rw [← e]; exact List.mem_cons_self))]
  | _ => cases e
end
/-- the core: J walks over ds -/
theorem comp_core2 {K : PySem.W.Frag} {ω : Option Om} {N : Addr → Prop} {E H H1 : Hp} {b : Nat} {env : Ev} {σ : L2.St} {J : It} {ds : List D} {g : TG} {tgt : FG} {tt : TT} {ft : FT} {fe : FE} {vs : List Nat} {Q : VK}
    (r : RepE K ω N E H1 b env σ) (hk : Keep ω H H1) (hgo : ∀ i H2 N', Keep ω H1 H2 → Pres K N N' H1 H2 → (∀ x, N' x → H2 x ≠ none) → i < ds.length → J.go i H2 ∧ ∀ x H', J.yld i H2 x H' → Same H2 H' ∧ ∃ d, ds[i]? = some d ∧ In K N' H' x d) (hst : ∀ H2, Keep ω H1 H2 → J.stop ds.length H2)
    (hg : OwnTg K g tgt vs) (htt : ∀ σ H Q, tY K ft σ H Q → tt σ H Q)
    (q : (endComp tgt ft fe (wipeE env vs) ds).All b fun d c => ∀ v H', Keep ω H H' → OrcO ω c H' → RK K ω N H H' .o v d → Q v H') :
    ∀ D, H1 D = none → ∃ W : Nat → Nat → Hp → Prop, (∃ m, W 0 m (upd H1 D (.lst []))) ∧ ∀ i m H, W i m H →
      (J.stop i H ∧ Q (.ref D) H) ∨ (J.go i H ∧ ∃ Nx : Hp → Prop, (∀ H', Nx H' → ∃ m', m' < m ∧ W (i + 1) m' H') ∧ ∀ x H', J.yld i H x H' → g x (wipe σ vs) H' fun σ2 H2 => wipe σ2 vs = wipe σ vs ∧ tt σ2 H2 fun b H3 =>
        if b = true then tX K .v fe σ2 H3 fun y H4 => ∃ acc, H4 D = some (.lst acc) ∧ acc.length < sizeLine ∧ Nx (upd H4 D (.lst (acc ++ [y]))) else Nx H3) := by
  intro D0 hD
  have nD : ¬ N D0 := fun z => r.dom _ z hD
  have noD : ¬ OmAt ω D0 := fun z => nD (r.om _ z)
  have om' : ∀ x, OmAt ω x → addN N D0 x := fun x z => .inl (r.om x z)
  unfold endComp at q
  by_cases hz : ds.length ≤ sizeLine
  · rw [if_pos hz] at q
    have q := (Tr.All_bind _ _ _ _).mp q
    have s0 : Same H1 (upd H1 D0 (.lst [])) := same_new hD
    have p0 : Pres K N (addN N D0) H1 (upd H1 D0 (.lst [])) := fun v d h => h.mono (fun x z => z.elim .inl fun e => .inr (by rw [e]; exact hD)) fun x o e _ => s0 x o e
    -- what stands between two turns
    let Inv2 : Nat → Hp → Prop := fun i H2 => ∃ c acc ys, Keep ω H1 H2 ∧ Pres K N (addN N D0) H1 H2 ∧ RepE K ω (addN N D0) E H2 c (wipeE env vs) (wipe σ vs) ∧ H2 D0 = some (.lst acc) ∧ InAll K (addN N D0) H2 acc ys ∧ acc.length ≤ i ∧
        (compD tgt ft fe (wipeE env vs) (ds.drop i)).All c fun zs c2 => ∀ v H', Keep ω H H' → OrcO ω c2 H' → RK K ω N H H' .o v (.list (ys ++ zs)) → Q v H'
    have next : ∀ i H4 c4 acc ys y dy, i < ds.length → Keep ω H1 H4 → Pres K N (addN N D0) H1 H4 → RepE K ω (addN N D0) E H4 c4 (wipeE env vs) (wipe σ vs) → H4 D0 = some (.lst acc) → InAll K (addN N D0) H4 acc ys → acc.length ≤ i → In K (addN N D0) H4 y dy →
        ((compD tgt ft fe (wipeE env vs) (ds.drop (i + 1))).All c4 fun zs c2 => ∀ v H', Keep ω H H' → OrcO ω c2 H' → RK K ω N H H' .o v (.list (ys ++ dy :: zs)) → Q v H') → Inv2 (i + 1) (upd H4 D0 (.lst (acc ++ [y]))) := by
      intro i H4 c4 acc ys y dy hi k4 p4 r4 e4 i4 l4 iy q4
      have pw : Pres K (addN N D0) (addN N D0) H4 (upd H4 D0 (.lst (acc ++ [y]))) := pres_write (.inr rfl)
      refine ⟨c4, acc ++ [y], ys ++ [dy], fun x o e n => ?_, p4.trans pw, ?_, upd_same, ?_, by rw [List.length_append]; exact Nat.succ_le_succ l4, Tr.All_mono q4 fun zs c2 hq => by rw [List.append_assoc]; exact hq⟩
      · rw [upd_ne (fun z => by rw [z, hD] at e; cases e)]
        exact k4 x o e n
      · refine ⟨r4.len, fun j s e => ?_, r4.sep, fun x hx => ?_, r4.om, orc_upd r4.orc noD, fun x o e n => ?_⟩
        · obtain ⟨v, e1, h⟩ := r4.slot j s e
          refine ⟨v, e1, ?_⟩
          cases s with
          | val d => exact pw _ _ h
          | own d =>
            obtain ⟨a, e2, na, no, ea, h⟩ := h
            have aD : a ≠ D0 := by
              rintro rfl
              obtain ⟨v0, e0, a0, e00, n0, no0, ea0, h0⟩ := r.slot j _ (wipeE_some e).1
              have e1' : σ[j]? = some (some v) := by rw [← wipe_at (wipeE_some e).2]; exact e1
              rw [e0] at e1'
              cases e1'
              rw [e00] at e2
              cases e2
              obtain ⟨o0, z0⟩ := h0.there
              rw [hD] at z0
              cases z0
            exact ⟨a, e2, na, no, ea, h.mono (fun _ z => .inl z) (fun x o e n => by rw [upd_ne (fun z => n (.inr z))]; exact e) (upd_ne aD)⟩
          | orc => exact h
        · by_cases z : x = D0
          · rw [z, upd_same]; exact fun q => nomatch q
          · rw [upd_ne z]; exact r4.dom x hx
        · have z : x ≠ D0 := fun z => by
            have := hk.none r.orc hD
            rw [z] at e
            have h1 : H1 D0 = some o := r.keep D0 o e noD
            rw [hD] at h1
            cases h1
          rw [upd_ne z]
          exact r4.keep x o e n
      · exact all_pres pw (i4.append (.cons iy .nil))
    refine ⟨fun i m H2 => Inv2 i H2 ∧ i + m = ds.length, ⟨ds.length, ⟨b, [], [], Keep.of s0, p0, (r.more (Keep.of s0) (r.orc.same s0) hD (by rw [upd_same]; exact fun z => nomatch z)).wipe vs, upd_same, .nil, Nat.zero_le _, q⟩, Nat.zero_add _⟩, fun i m H2 ⟨⟨c, acc, ys, kH, pH, r2, e2, i2, hl, q2⟩, em⟩ => ?_⟩
    by_cases hi : i < ds.length
    · obtain ⟨g1, g2⟩ := hgo i H2 _ kH pH r2.dom hi
      rw [List.drop_eq_getElem_cons hi] at q2
      refine .inr ⟨g1, Inv2 (i + 1), fun H3 z => ⟨m - 1, by omega, z, by omega⟩, fun x H3 hy => ?_⟩
      obtain ⟨sm, d, ed, hd⟩ := g2 x H3 hy
      have kS : Keep ω H2 H3 := Keep.of sm
      have r2 := r2.move kS (r2.orc.same sm)
      have e2 := sm _ _ e2
      have i2 := i2.keep om' kS
      have kH := kH.trans kS
      have pH := pH.trans (Pres.keep om' kS)
      rw [List.getElem?_eq_getElem hi] at ed
      cases ed
      have q2 : (match tgt ds[i] (wipeE env vs) with
        | some env1 => (ft env1).bind fun b => if b = true then (fe env1).bind fun y => (compD tgt ft fe (wipeE env vs) (ds.drop (i + 1))).bind fun ys => .ret (y :: ys) else compD tgt ft fe (wipeE env vs) (ds.drop (i + 1))
        | none => .fail : Tr (List D)).All c fun zs c2 => ∀ v H', Keep ω H H' → OrcO ω c2 H' → RK K ω N H H' .o v (.list (ys ++ zs)) → Q v H' := q2
      cases et : tgt ds[i] (wipeE env vs) with
      | none => simp only [et] at q2; exact q2.elim
      | some env1 =>
        simp only [et] at q2
        refine hg ω _ E H3 c _ env1 _ x _ _ r2 hd et fun σ2 rσ hlen hag => ⟨wipe_eq (hlen.trans (wipe_length σ vs)) (fun i hi => (hag i hi).trans (wipe_at hi)), htt _ _ _ ⟨ω, addN N D0, E, c, env1, rσ, Tr.All_mono ((Tr.All_bind _ _ _ _).mp q2) fun t c3 qa H4 k4 o4 => ?_⟩⟩
        cases t with
        | true =>
          refine ⟨ω, addN N D0, E, c3, env1, rσ.move k4 o4, Tr.All_mono ((Tr.All_bind _ _ _ _).mp qa) fun y c4 qb v H5 k5 o5 i5 => ?_⟩
          have k45 := k4.trans k5
          refine ⟨acc, k45 _ _ e2 noD, Nat.lt_of_le_of_lt hl (Nat.lt_of_lt_of_le hi hz), next i H5 c4 acc ys v y hi (kH.trans k45) (pH.trans (Pres.keep om' k45)) (r2.move k45 o5) (k45 _ _ e2 noD) (i2.keep om' k45) hl i5 ?_⟩
          exact Tr.All_mono ((Tr.All_bind _ _ _ _).mp qb) fun zs c5 hq => hq
        | false =>
          exact ⟨c3, acc, ys, kH.trans k4, pH.trans (Pres.keep om' k4), r2.move k4 o4, k4 _ _ e2 noD, i2.keep om' k4, Nat.le_succ_of_le hl, qa⟩
    · have ei : i = ds.length := by omega
      subst ei
      rw [List.drop_length] at q2
      refine .inl ⟨hst H2 kH, ?_⟩
      have q3 := q2 (.ref D0) H2 (hk.trans kH) r2.orc
      rw [List.append_nil] at q3
      exact q3 ⟨D0, rfl, hk.none r.orc hD, acc, e2, i2⟩
  · rw [if_neg hz] at q
    exact q.elim
theorem comp_core {K : PySem.W.Frag} {ω : Option Om} {N : Addr → Prop} {E H H1 : Hp} {b : Nat} {env : Ev} {σ : L2.St} {J : It} {ds : List D} {g : TG} {tgt : FG} {tt : TT} {ft : FT} {fe : FE} {vs : List Nat} {Q : VK}
    (r : RepE K ω N E H1 b env σ) (hk : Keep ω H H1) (hgo : ∀ i H2 N', Keep ω H1 H2 → Pres K N N' H1 H2 → i < ds.length → J.go i H2 ∧ ∀ x H', J.yld i H2 x H' → H' = H2 ∧ ∃ d, ds[i]? = some d ∧ In K N' H2 x d) (hst : ∀ H2, Keep ω H1 H2 → J.stop ds.length H2)
    (hg : OwnTg K g tgt vs) (htt : ∀ σ H Q, tY K ft σ H Q → tt σ H Q)
    (q : (endComp tgt ft fe (wipeE env vs) ds).All b fun d c => ∀ v H', Keep ω H H' → OrcO ω c H' → RK K ω N H H' .o v d → Q v H') :
    ∀ D, H1 D = none → ∃ W : Nat → Nat → Hp → Prop, (∃ m, W 0 m (upd H1 D (.lst []))) ∧ ∀ i m H, W i m H →
      (J.stop i H ∧ Q (.ref D) H) ∨ (J.go i H ∧ ∃ Nx : Hp → Prop, (∀ H', Nx H' → ∃ m', m' < m ∧ W (i + 1) m' H') ∧ ∀ x H', J.yld i H x H' → g x (wipe σ vs) H' fun σ2 H2 => wipe σ2 vs = wipe σ vs ∧ tt σ2 H2 fun b H3 =>
        if b = true then tX K .v fe σ2 H3 fun y H4 => ∃ acc, H4 D = some (.lst acc) ∧ acc.length < sizeLine ∧ Nx (upd H4 D (.lst (acc ++ [y]))) else Nx H3) :=
  comp_core2 r hk (fun i H2 N' k p _ hi => (hgo i H2 N' k p hi).imp id fun f x H' hy => by
    obtain ⟨e, d, a, b⟩ := f x H' hy
    subst e
    exact ⟨Same.refl _, d, a, b⟩) hst hg htt q
section
variable {X : Cx} {e : Expr}
def eCompL (f : FE) (tgt : FG) (t : FT) (fe : FE) (vs : List Nat) : FE := fun env => (f env).bind fun d => match d with
  | .list ds => endComp tgt t fe (wipeE env vs) ds
  | _ => .fail
def eCompT (f : FE) (tgt : FG) (t : FT) (fe : FE) (vs : List Nat) : FE := fun env => (f env).bind fun d => match d with
  | .tuple ds => endComp tgt t fe (wipeE env vs) ds
  | _ => .fail
def eCompR (r : FL) (tgt : FG) (t : FT) (fe : FE) (vs : List Nat) : FE := fun env => (r env).bind fun ds => match rngOf ds with
  | some (lo, n) => endComp tgt t fe (wipeE env vs) (rngD lo n)
  | none => .fail
theorem InB.list2 {K : PySem.W.Frag} {ω : Option Om} {N : Addr → Prop} {H : Hp} {v : V} {ds : List D} (h : InB K ω N H v (.list ds)) (om : ∀ x, OmAt ω x → N x) : ∃ a xs, v = .ref a ∧ H a = some (.lst xs) ∧ InAll K N H xs ds ∧ ¬ OmAt ω a := by
  rcases h with h | ⟨a, rfl, n, xs, e, h⟩
  · cases h with
    | lst n r h => exact ⟨_, _, rfl, r, h, fun z => n (om _ z)⟩
  · exact ⟨a, xs, rfl, e, h, n⟩
theorem xe_compL {f fe : FE} {g : TG} {tgt : FG} {tt : TT} {ft : FT} {vs : List Nat} (hg : OwnTg X.K g tgt vs) (htt : ∀ σ H Q, tY X.K ft σ H Q → tt σ H Q) (h : PE X e (tLc (iList X.K (tX X.K .b f)) g tt (tX X.K .v fe) vs)) : XE X .o e (eCompL f tgt ft fe vs) :=
  weak h fun σ H Q ⟨ω, N, E, b, env, r, q⟩ => by
  refine ⟨ω, N, E, b, env, r, Tr.All_mono ((Tr.All_bind _ _ _ _).mp q) fun d c qa v H1 k1 o1 i1 => ?_⟩
  cases d with
  | list ds =>
    obtain ⟨a, xs, rfl, ha, h1, no⟩ := InB.list2 i1 r.om
    refine ⟨a, rfl, ⟨xs, .inl (.inl ha)⟩, comp_core (r.move k1 o1) k1 (fun i H2 N' k2 p2 hi => ?_) (fun H2 k2 => ?_) hg htt qa⟩
    · have ha2 : H2 a = some (.lst xs) := k2 _ _ ha no
      have hx : i < xs.length := by rw [h1.length]; exact hi
      refine ⟨⟨xs, xs[i], .inl (.inl ha2), List.getElem?_eq_getElem hx⟩, fun x H' ⟨eH, hy⟩ => ⟨eH, ?_⟩⟩
      obtain ⟨d, ed, hd⟩ := (all_pres p2 h1).get (hy _ (.inl (.inl ha2)))
      exact ⟨d, ed, hd⟩
    · exact ⟨xs, .inl (.inl (k2 _ _ ha no)), Nat.le_of_eq h1.length⟩
  | _ => exact qa.elim
theorem seqT_keep {K : PySem.W.Frag} {ω : Option Om} {N : Addr → Prop} {H H2 : Hp} {v : V} {ds : List D} (h : In K N H v (.tuple ds)) (om : ∀ x, OmAt ω x → N x) : ∃ a xs, v = .ref a ∧ InAll K N H xs ds ∧ ∀ H2, Keep ω H H2 → SqT K H2 a xs := by
  cases h with
  | tup n r h =>
    obtain ⟨o, r, z⟩ := r
    exact ⟨_, _, rfl, h, fun H2 k => .inl (.inr ⟨o, k _ _ r fun z => n (om _ z)⟩)⟩
  | tupK r h => exact ⟨_, _, rfl, h, fun H2 k => r.seq⟩
theorem xe_compT {f fe : FE} {g : TG} {tgt : FG} {tt : TT} {ft : FT} {vs : List Nat} (hg : OwnTg X.K g tgt vs) (htt : ∀ σ H Q, tY X.K ft σ H Q → tt σ H Q) (h : PE X e (tLc (iTup X.K (tX X.K .v f)) g tt (tX X.K .v fe) vs)) : XE X .o e (eCompT f tgt ft fe vs) :=
  weak h fun σ H Q ⟨ω, N, E, b, env, r, q⟩ => by
  refine ⟨ω, N, E, b, env, r, Tr.All_mono ((Tr.All_bind _ _ _ _).mp q) fun d c qa v H1 k1 o1 i1 => ?_⟩
  cases d with
  | tuple ds =>
    obtain ⟨a, xs, rfl, h1, hT⟩ := seqT_keep (H2 := H1) i1 r.om
    refine ⟨a, rfl, ⟨xs, hT _ Keep.refl⟩, comp_core (r.move k1 o1) k1 (fun i H2 N' k2 p2 hi => ?_) (fun H2 k2 => ?_) hg htt qa⟩
    · have hx : i < xs.length := by rw [h1.length]; exact hi
      refine ⟨⟨xs, xs[i], hT _ k2, List.getElem?_eq_getElem hx⟩, fun x H' ⟨eH, hy⟩ => ⟨eH, ?_⟩⟩
      obtain ⟨d, ed, hd⟩ := (all_pres p2 h1).get (hy _ (hT _ k2))
      exact ⟨d, ed, hd⟩
    · exact ⟨xs, hT _ k2, Nat.le_of_eq h1.length⟩
  | _ => exact qa.elim
theorem rd_compR1 {r : FL} {fe : FE} {g : TG} {tgt : FG} {tt : TT} {ft : FT} {vs : List Nat} (hg : OwnTg X.K g tgt vs) (htt : ∀ σ H Q, tY X.K ft σ H Q → tt σ H Q) (h1 : ∀ env b (P : List D → Nat → Prop), (r env).All b P → (r env).All b fun ds c => ds.length = 1 ∧ P ds c)
    : ∀ σ H Q, tX X.K .o (eCompR r tgt ft fe vs) σ H Q → ((tLc (iRng1 (tLB X.K r)) g tt (tX X.K .v fe) vs)) σ H Q :=
  fun σ H Q ⟨ω, N, E, b, env, r, q⟩ => by
  refine ⟨ω, N, E, b, env, r, Tr.All_mono (h1 _ _ _ ((Tr.All_bind _ _ _ _).mp q)) fun ds c ⟨hl, qa⟩ vs H1 k1 o1 i1 => ?_⟩
  match ds, hl, qa, i1 with
  | [d], _, qa, i1 =>
    obtain ⟨v, rfl, iv⟩ := InBs.one i1
    cases d with
    | int j =>
      cases iv.int
      simp only [rngOf] at qa
      by_cases hz : ok62 j = true
      · rw [if_pos hz] at qa
        have hz' := of_decide_eq_true hz
        refine ⟨j, rfl, hz'.1, hz'.2, comp_core (r.move k1 o1) k1 (fun i H2 N' k2 p2 hi => ?_) (fun H2 k2 => ?_) hg htt qa⟩
        · rw [rngD_len] at hi
          exact ⟨hi, fun x H' ⟨eH, hy⟩ => ⟨eH, _, rngD_at _ _ _ hi, by rw [hy]; exact .int _⟩⟩
        · rw [rngD_len]; exact Nat.le_refl _
      · rw [if_neg hz] at qa
        exact qa.elim
    | _ => exact qa.elim
theorem xe_compR1 {r : FL} {fe : FE} {g : TG} {tgt : FG} {tt : TT} {ft : FT} {vs : List Nat} (hg : OwnTg X.K g tgt vs) (htt : ∀ σ H Q, tY X.K ft σ H Q → tt σ H Q) (h1 : ∀ env b (P : List D → Nat → Prop), (r env).All b P → (r env).All b fun ds c => ds.length = 1 ∧ P ds c)
    (h : PE X e ((tLc (iRng1 (tLB X.K r)) g tt (tX X.K .v fe) vs))) : XE X .o e (eCompR r tgt ft fe vs) := weak h (rd_compR1 hg htt h1)
theorem rd_compR2 {r : FL} {fe : FE} {g : TG} {tgt : FG} {tt : TT} {ft : FT} {vs : List Nat} (hg : OwnTg X.K g tgt vs) (htt : ∀ σ H Q, tY X.K ft σ H Q → tt σ H Q) (h1 : ∀ env b (P : List D → Nat → Prop), (r env).All b P → (r env).All b fun ds c => ds.length = 2 ∧ P ds c)
    : ∀ σ H Q, tX X.K .o (eCompR r tgt ft fe vs) σ H Q → ((tLc (iRng2 (tLB X.K r)) g tt (tX X.K .v fe) vs)) σ H Q :=
  fun σ H Q ⟨ω, N, E, b, env, r, q⟩ => by
  refine ⟨ω, N, E, b, env, r, Tr.All_mono (h1 _ _ _ ((Tr.All_bind _ _ _ _).mp q)) fun ds c ⟨hl, qa⟩ vs H1 k1 o1 i1 => ?_⟩
  match ds, hl, qa, i1 with
  | [d, d2], _, qa, i1 =>
    obtain ⟨v, u, rfl, iv, iu⟩ := InBs.two i1
    cases d with
    | int i =>
      cases d2 with
      | int j =>
        cases iv.int
        cases iu.int
        simp only [rngOf] at qa
        by_cases hz : ok62 i = true ∧ ok62 j = true
        · rw [if_pos hz] at qa
          have hz1 := of_decide_eq_true hz.1
          have hz2 := of_decide_eq_true hz.2
          refine ⟨i, j, rfl, ⟨hz1.1, hz1.2, hz2.1, hz2.2⟩, comp_core (r.move k1 o1) k1 (fun m H2 N' k2 p2 hi => ?_) (fun H2 k2 => ?_) hg htt qa⟩
          · rw [rngD_len] at hi
            exact ⟨hi, fun x H' ⟨eH, hy⟩ => ⟨eH, _, rngD_at _ _ _ hi, by rw [hy]; exact .int _⟩⟩
          · rw [rngD_len]; exact Nat.le_refl _
        · rw [if_neg hz] at qa
          exact qa.elim
      | _ => exact qa.elim
    | _ => exact qa.elim
theorem xe_compR2 {r : FL} {fe : FE} {g : TG} {tgt : FG} {tt : TT} {ft : FT} {vs : List Nat} (hg : OwnTg X.K g tgt vs) (htt : ∀ σ H Q, tY X.K ft σ H Q → tt σ H Q) (h1 : ∀ env b (P : List D → Nat → Prop), (r env).All b P → (r env).All b fun ds c => ds.length = 2 ∧ P ds c)
    (h : PE X e ((tLc (iRng2 (tLB X.K r)) g tt (tX X.K .v fe) vs))) : XE X .o e (eCompR r tgt ft fe vs) := weak h (rd_compR2 hg htt h1)
/-- no test -/
def fYes : FT := fun _ => .ret true
theorem yes_ok {K : PySem.W.Frag} : ∀ σ H Q, tY K fYes σ H Q → tYes σ H Q := fun σ H Q ⟨ω, N, E, b, env, r, q⟩ => q H Keep.refl r.orc
end
/-! ### a def -/
def startE (n : Nat) (ss : List Slot) : Ev := ss.map some ++ List.replicate (n - ss.length) none
def fnF (n : Nat) (k : Kd) (fb : FS) (ss : List Slot) : Tr D := (fb (startE n ss)).bind fun o => match o with
  | .rv d => .ret d
  | .nx _ => match k with
    | .v => .ret .none
    | _ => .fail
  | _ => .fail
theorem slots_at {F : Slot → V → Prop} : ∀ {ss : List Slot} {vs : List V} {i : Nat} {s : Slot}, Paired F ss vs → ss[i]? = some s → ∃ v, vs[i]? = some v ∧ F s v
  | _, _, _, _, .nil, e => by simp at e
  | _, _, 0, _, .cons h _, e => by simp at e; subst e; exact ⟨_, rfl, h⟩
  | _, _, i + 1, _, .cons _ t, e => by
    obtain ⟨v, e1, h1⟩ := slots_at (i := i) t (by simpa using e)
    exact ⟨v, by simpa using e1, h1⟩
theorem rep_start {K : PySem.W.Frag} {ω : Option Om} {N : Addr → Prop} {H : Hp} {b : Nat} {Ns : List Str} {ss : List Slot} {vs : List V} (om : ∀ x, OmAt ω x → N x) (dom : ∀ x, N x → H x ≠ none) (orc : OrcO ω b H) (h : Paired (SlotA K ω N H) ss vs) : RepE K ω N H H b (startE Ns.length ss) (start Ns vs) := by
  have hl : ss.length = vs.length := h.length
  have at0 : ∀ (i : Nat) (s : Slot), (startE Ns.length ss)[i]? = some (some s) → ss[i]? = some s := fun i s e => by
    unfold startE at e
    by_cases hi : i < ss.length
    · rw [List.getElem?_append_left (by rw [List.length_map]; exact hi), List.getElem?_map] at e
      cases q : ss[i]? with
      | none => rw [q] at e; cases e
      | some t => rw [q] at e; cases e; rfl
    · rw [List.getElem?_append_right (by rw [List.length_map]; omega), List.getElem?_replicate] at e
      split at e <;> cases e
  refine ⟨?_, fun i s e => ?_, fun i j di dj a hij e1 e2 e3 e4 => ?_, dom, om, orc, Keep.refl⟩
  · unfold startE L2.start
    rw [List.length_append, List.length_append, List.length_map, List.length_map, List.length_replicate, List.length_replicate, hl]
  · have e1 := at0 i s e
    obtain ⟨v, e2, q⟩ := slots_at h e1
    refine ⟨v, ?_, ?_⟩
    · unfold L2.start
      have hi : i < vs.length := by
        obtain ⟨z, _⟩ := List.getElem?_eq_some_iff.mp e2
        exact z
      rw [List.getElem?_append_left (by rw [List.length_map]; exact hi), List.getElem?_map, e2]
      rfl
    · cases s with
      | val d => exact q
      | own d => exact q.elim
      | orc => exact q
  · obtain ⟨v, e5, q⟩ := slots_at h (at0 i _ e1)
    exact q.elim
end DL
end
section
set_option linter.all false
set_option maxRecDepth 100000
/-! enumerate over a tuple; walks over a list or a tuple, whichever it is -/
namespace DLenum
open PySem
open Sem (wp)
open AutoSeq1 (wpAny_loadPart')
theorem meets_enum_newT (t : Addr) (items : Array Value) (o : Obj) (n : Nat) (hCc : o.cls = .type "tuple") (hDd : o.data = .seq items n) :
    Meets (Builtin.«enumerate.__new__» ⟨[.type "enumerate", .ref t], []⟩) (fun _ R s => s.heap.get? t = some o ∧
      R (.ok (.ret (.ref (s.heap.push { cls := .type "tuple_iterator", data := .fields #[.ref t, .int 0 0] }).objs.size)))
        { s with heap := (s.heap.push { cls := .type "tuple_iterator", data := .fields #[.ref t, .int 0 0] }).push { cls := .type "enumerate", data := .fields #[.none, .bool false, .ref s.heap.objs.size, rawInt 0, .none, .none] } }) :=
  .of_wp fun prog w A R s h => by
    obtain ⟨hPp, g, d, tk, os⟩ := s
    obtain ⟨hLl, h⟩ := h
    have hSub := sub_enumerate
    have hTt : Heap.IsTuple (Shared.heap ⟨hPp, g, d, tk, os⟩) t items := ⟨_, hLl, hCc, n, hDd⟩
    wp_walk using wpAny_loadPart' hLl
    refine wpAny_stack_any fun sTt => wpAny_pure ?_
    split
    · rename_i c _ _ _ _ _
      cases (c == Value.type "enumerate")
      · wp_walk using wpAny_loadPart' hLl, wpAny_pyIter_tuple hTt
        exact ⟨_, rfl, h⟩
      · wp_walk using wpAny_loadPart' hLl, wpAny_pyIter_tuple hTt
        exact ⟨_, rfl, h⟩
    · wp_walk using wpAny_loadPart' hLl, wpAny_pyIter_tuple hTt
      exact ⟨_, rfl, h⟩
section
variable {prog : Program} {w : World} {A : Around} {E : Value → Shared → Prop} {s : Shared}
theorem call_enum_tuple {t : Addr} {items : Array Value} {Q : Value → Shared → Prop} (hTt : s.heap.IsTuple t items)
    (h : ∀ h', IsEnum h' (s.heap.objs.size + 1) s.heap.objs.size 0 .none → h'.IsTupleIter s.heap.objs.size t 0 → h'.objs.size = s.heap.objs.size + 2 →
      (∀ b o, s.heap.get? b = some o → h'.get? b = some o) → Q (.ref (s.heap.objs.size + 1)) { s with heap := h' }) :
    wpAny (model prog w) A (call (.type "enumerate") [.ref t]) Q E s := by
  obtain ⟨o, hOo, hCc, n, hDd⟩ := hTt
  refine callType_new F.called_enumerate (by decide) (F.typeCall_enumerate_1 _) (F.newCall_enumerate_1 _) (fun obj => F.args_object_init_2 obj _) F.entry_enumerate_new
    (meets_enum_newT t items o n hCc hDd) ⟨hOo, ?_⟩
  have hZz : (s.heap.push { cls := .type "tuple_iterator", data := .fields #[.ref t, .int 0 0] }).objs.size = s.heap.objs.size + 1 := Heap.size_push ..
  show _ ∧ _
  rw [hZz]
  have he : IsEnum ((s.heap.push { cls := .type "tuple_iterator", data := .fields #[.ref t, .int 0 0] }).push
      { cls := .type "enumerate", data := .fields #[.none, .bool false, .ref s.heap.objs.size, rawInt 0, .none, .none] }) (s.heap.objs.size + 1) s.heap.objs.size 0 .none := by
    have q := Heap.get?_push_size (s.heap.push { cls := .type "tuple_iterator", data := .fields #[.ref t, .int 0 0] })
      (o := { cls := .type "enumerate", data := .fields #[.none, .bool false, .ref s.heap.objs.size, rawInt 0, .none, .none] }) rfl
    rw [hZz] at q; exact q
  refine ⟨⟨_, he, rfl⟩, h _ he ⟨_, Heap.get?_push_of_some _ (Heap.get?_push_size _ rfl), rfl, rfl⟩ (by rw [Heap.size_push, hZz]) fun b o x => Heap.get?_push_of_some _ (Heap.get?_push_of_some _ x)⟩
end
end DLenum
namespace DL
open PySem PySem.Spec PyProof.Rows L2
/-- the tuple at a, each item in a new pair with itz number -/
def IteT (K : PySem.W.Frag) (a : Addr) (n : Nat) : It :=
  ⟨fun i H => i < n ∧ ∃ (xs : List V) (x : V), SqT K H a xs ∧ xs.length = n ∧ xs[i]? = some x, fun i H v H' => ∃ T x o, v = .ref T ∧ H T = none ∧ H' = upd H T (.frz o (.tup [.int (i : Nat), x])) ∧ o.dict = none ∧ ∀ xs, SqT K H a xs → xs[i]? = some x, fun i H => i = n ∧ ∃ xs : List V, SqT K H a xs ∧ xs.length = n⟩
theorem turn_enumT {P : Program} {w : World} {K : PySem.W.Frag} {elts : List Expr} {kk : Nat} {tpos : Pos} (a e it : Addr) (n : Nat) (hea : e ≠ a) (hia : a ≠ it) (hei : e ≠ it) :
    Turn P w K (.Tuple elts kk tpos) (IteT K a n) [e, it] e (fun i h => (∃ old, IsEnum h e it ((i : Nat) : Int) old) ∧ h.IsTupleIter it a i ∧ True) where
  mem := by simp
  obj := fun i h sTt b hb => by
    obtain ⟨⟨old, he⟩, ⟨o, hOo, hCc, hDd⟩, _⟩ := sTt
    have eQ' : b = e ∨ b = it := by simpa using hb
    rcases eQ' with z | z
    · rw [z]; exact ⟨_, he, fun v q => nomatch q⟩
    · rw [z]; exact ⟨o, hOo, fun v q => by rw [hDd] at q; cases q⟩
  keep := fun i h h' sTt k => let ⟨⟨old, he⟩, ⟨o, hOo, hCc, hDd⟩, _⟩ := sTt; ⟨⟨old, k e (by simp) _ he⟩, ⟨o, k it (by simp) _ hOo, hCc, hDd⟩, trivial⟩
  item := by
    intro X hP hw hK hCc i pnz s σ H E I hFf sTt hGg
    subst hP hw hK
    obtain ⟨⟨old, he⟩, hIt, _⟩ := sTt
    obtain ⟨hIn, xs, x, hQq, hLen, hXx⟩ := hGg
    obtain ⟨itz, rVs, p, hZz⟩ := I.tuple hQq
    obtain ⟨u, hUu, ru⟩ := rVs.get hXx
    have hsz1 : itz.toArray.size = n := by rw [List.size_toArray, ← rVs.length]; exact hLen
    have hEl : e < s.heap.objs.size := Heap.lt_size he
    have hIl : it < s.heap.objs.size := by obtain ⟨_, q, _⟩ := hIt; exact Heap.lt_size q
    have DR := Draws.tuple (prog := X.prog) (w := X.w) (A := X.A.in1) (I.ok.hd hCc) it a hia itz.toArray
    refine wpAny_pyNext_enum_itemD (DR) he ⟨hIt, p⟩ (by rw [hsz1]; exact hIn) hei (by simp [hei, hea]) fun y h' tk hy hOo hSt hTt hSz hKk => ?_
    have ey : y = u := by
      have q : itz.toArray[i]? = some u := by simpa using hUu
      rw [hy] at q
      exact Option.some.inj q
    subst ey
    refine ⟨_, rfl, wpAny_letOwnedTupleGo_enum (s := { s with heap := h', toks := tk + 1 }) hOo fun h'' he' sb => ?_⟩
    have hT2 : h''.get? s.heap.objs.size = some { cls := .type "tuple", data := .seq #[.int i tk, y] } := (sb.2 _ (Nat.ne_of_gt hEl)).trans hTt
    have new : ObjOk X.prog X.w (upd H s.heap.objs.size (.frz { cls := .type "tuple", data := .seq #[.int i tk, y] } (.tup [.int (i : Nat), x]))) h'' s.heap.objs.size (.frz { cls := .type "tuple", data := .seq #[.int i tk, y] } (.tup [.int (i : Nat), x])) :=
      ⟨hT2, by show 2 ≤ sizeLine; decide, [.int i tk, y], .cons ⟨_, rfl⟩ (.cons ru .nil), ⟨_, hT2, rfl, _, rfl⟩⟩
    have IA : Inv X pnz σ (upd H s.heap.objs.size (.frz { cls := .type "tuple", data := .seq #[.int i tk, y] } (.tup [.int (i : Nat), x]))) { s with heap := h'', toks := tk + 1 } :=
      I.turnedNew (ch := [e, it]) (fun b ob hb q => (sb.2 b (fun z => hb (by simp [z]))).trans (hKk b ob (fun z => hb (by simp [z])) (fun z => hb (by simp [z])) q)) hFf (Nat.le_refl _) new
    refine ⟨.ref s.heap.objs.size, _, IA, rfl, ⟨_, x, _, rfl, I.hok.fresh (Nat.le_refl _), rfl, rfl, fun ys hy => by rw [I.tuple_inj hy hQq]; exact hXx⟩, ⟨⟨y, ?_⟩, ?_, trivial⟩, fun b hb => ?_⟩
    · have eQ1 : ((i + 1 : Nat) : Int) = (i : Int) + 1 := by omega
      rw [eQ1]; exact he'
    · obtain ⟨o, qA, q2, q3⟩ := hSt.1
      exact ⟨o, (sb.2 it (Ne.symm hei)).trans qA, q2, q3⟩
    · have hBb' : b < s.heap.objs.size := by
        have eQ' : b = e ∨ b = it := by simpa using hb
        rcases eQ' with z | z
        · rw [z]; exact hEl
        · rw [z]; exact hIl
      rw [upd_ne (Nat.ne_of_lt hBb')]
      exact (hFf b hb).1
  done := by
    intro X hP hw hK hCc i pnz s σ H E I hFf sTt hGg
    subst hP hw hK
    obtain ⟨⟨old, he⟩, hIt, _⟩ := sTt
    obtain ⟨ein, xs, hQq, hLen⟩ := hGg
    obtain ⟨itz, rVs, p, hZz⟩ := I.tuple hQq
    obtain ⟨f0, f1, f2, f3, f4, f5⟩ := hFf it (by simp)
    have hsz1 : itz.toArray.size = n := by rw [List.size_toArray, ← rVs.length]; exact hLen
    have DR := Draws.tuple (prog := X.prog) (w := X.w) (A := X.A.in1) (I.ok.hd hCc) it a hia itz.toArray
    refine wpAny_pyNext_enum_endD DR he ⟨by rw [hsz1, ← ein]; exact hIt, p⟩ fun h' eb => ⟨rfl, I.turned (t' := s.toks) (fun b o hb q => eb b o hb q) f0 f1 f3 f4 f5⟩
  self := fun A i s Q E sTt h => let ⟨⟨_, he⟩, _⟩ := sTt; wpAny_pyIter_enum he h
/-- the list at a, each item in a new pair with itz number -/
def IteL (K : PySem.W.Frag) (a : Addr) (n : Nat) : It :=
  ⟨fun i H => i < n ∧ ∃ (xs : List V) (x : V), SqL K H a xs ∧ xs.length = n ∧ xs[i]? = some x, fun i H v H' => ∃ T x o, v = .ref T ∧ H T = none ∧ H' = upd H T (.frz o (.tup [.int (i : Nat), x])) ∧ o.dict = none ∧ ∀ xs, SqL K H a xs → xs[i]? = some x, fun i H => i = n ∧ ∃ xs : List V, SqL K H a xs ∧ xs.length = n⟩
theorem turn_enumL {P : Program} {w : World} {K : PySem.W.Frag} {elts : List Expr} {kk : Nat} {tpos : Pos} (a e it : Addr) (n : Nat) (hea : e ≠ a) (hia : a ≠ it) (hei : e ≠ it) :
    Turn P w K (.Tuple elts kk tpos) (IteL K a n) [e, it] e (fun i h => (∃ old, IsEnum h e it ((i : Nat) : Int) old) ∧ h.IsListIter it a i ∧ True) where
  mem := by simp
  obj := fun i h sTt b hb => by
    obtain ⟨⟨old, he⟩, ⟨o, hOo, hCc, hDd⟩, _⟩ := sTt
    have eQ' : b = e ∨ b = it := by simpa using hb
    rcases eQ' with z | z
    · rw [z]; exact ⟨_, he, fun v q => nomatch q⟩
    · rw [z]; exact ⟨o, hOo, fun v q => by rw [hDd] at q; cases q⟩
  keep := fun i h h' sTt k => let ⟨⟨old, he⟩, ⟨o, hOo, hCc, hDd⟩, _⟩ := sTt; ⟨⟨old, k e (by simp) _ he⟩, ⟨o, k it (by simp) _ hOo, hCc, hDd⟩, trivial⟩
  item := by
    intro X hP hw hK hCc i pnz s σ H E I hFf sTt hGg
    subst hP hw hK
    obtain ⟨⟨old, he⟩, hIt, _⟩ := sTt
    obtain ⟨hIn, xs, x, hQq, hLen, hXx⟩ := hGg
    obtain ⟨itz, rVs, p, hZz⟩ := I.list hQq
    obtain ⟨u, hUu, ru⟩ := rVs.get hXx
    have hsz1 : itz.toArray.size = n := by rw [List.size_toArray, ← rVs.length]; exact hLen
    have hEl : e < s.heap.objs.size := Heap.lt_size he
    have hIl : it < s.heap.objs.size := by obtain ⟨_, q, _⟩ := hIt; exact Heap.lt_size q
    have DR := Draws.list (prog := X.prog) (w := X.w) (A := X.A.in1) (I.ok.hd hCc) it a hia itz.toArray
    refine wpAny_pyNext_enum_itemD (DR) he ⟨hIt, p.isList⟩ (by rw [hsz1]; exact hIn) hei (by simp [hei, hea]) fun y h' tk hy hOo hSt hTt hSz hKk => ?_
    have ey : y = u := by
      have q : itz.toArray[i]? = some u := by simpa using hUu
      rw [hy] at q
      exact Option.some.inj q
    subst ey
    refine ⟨_, rfl, wpAny_letOwnedTupleGo_enum (s := { s with heap := h', toks := tk + 1 }) hOo fun h'' he' sb => ?_⟩
    have hT2 : h''.get? s.heap.objs.size = some { cls := .type "tuple", data := .seq #[.int i tk, y] } := (sb.2 _ (Nat.ne_of_gt hEl)).trans hTt
    have new : ObjOk X.prog X.w (upd H s.heap.objs.size (.frz { cls := .type "tuple", data := .seq #[.int i tk, y] } (.tup [.int (i : Nat), x]))) h'' s.heap.objs.size (.frz { cls := .type "tuple", data := .seq #[.int i tk, y] } (.tup [.int (i : Nat), x])) :=
      ⟨hT2, by show 2 ≤ sizeLine; decide, [.int i tk, y], .cons ⟨_, rfl⟩ (.cons ru .nil), ⟨_, hT2, rfl, _, rfl⟩⟩
    have IA : Inv X pnz σ (upd H s.heap.objs.size (.frz { cls := .type "tuple", data := .seq #[.int i tk, y] } (.tup [.int (i : Nat), x]))) { s with heap := h'', toks := tk + 1 } :=
      I.turnedNew (ch := [e, it]) (fun b ob hb q => (sb.2 b (fun z => hb (by simp [z]))).trans (hKk b ob (fun z => hb (by simp [z])) (fun z => hb (by simp [z])) q)) hFf (Nat.le_refl _) new
    refine ⟨.ref s.heap.objs.size, _, IA, rfl, ⟨_, x, _, rfl, I.hok.fresh (Nat.le_refl _), rfl, rfl, fun ys hy => by rw [I.list_inj hy hQq]; exact hXx⟩, ⟨⟨y, ?_⟩, ?_, trivial⟩, fun b hb => ?_⟩
    · have eQ1 : ((i + 1 : Nat) : Int) = (i : Int) + 1 := by omega
      rw [eQ1]; exact he'
    · obtain ⟨o, qA, q2, q3⟩ := hSt.1
      exact ⟨o, (sb.2 it (Ne.symm hei)).trans qA, q2, q3⟩
    · have hBb' : b < s.heap.objs.size := by
        have eQ' : b = e ∨ b = it := by simpa using hb
        rcases eQ' with z | z
        · rw [z]; exact hEl
        · rw [z]; exact hIl
      rw [upd_ne (Nat.ne_of_lt hBb')]
      exact (hFf b hb).1
  done := by
    intro X hP hw hK hCc i pnz s σ H E I hFf sTt hGg
    subst hP hw hK
    obtain ⟨⟨old, he⟩, hIt, _⟩ := sTt
    obtain ⟨ein, xs, hQq, hLen⟩ := hGg
    obtain ⟨itz, rVs, p, hZz⟩ := I.list hQq
    obtain ⟨f0, f1, f2, f3, f4, f5⟩ := hFf it (by simp)
    have hsz1 : itz.toArray.size = n := by rw [List.size_toArray, ← rVs.length]; exact hLen
    have DR := Draws.list (prog := X.prog) (w := X.w) (A := X.A.in1) (I.ok.hd hCc) it a hia itz.toArray
    refine wpAny_pyNext_enum_endD DR he ⟨by rw [hsz1, ← ein]; exact hIt, p.isList⟩ fun h' eb => ⟨rfl, I.turned (t' := s.toks) (fun b o hb q => eb b o hb q) f0 f1 f3 f4 f5⟩
  self := fun A i s Q E sTt h => let ⟨⟨_, he⟩, _⟩ := sTt; wpAny_pyIter_enum he h
def iEnumT (K : PySem.W.Frag) (ta : TA) : TI := fun σ H R => ta σ H fun vs HA => ∃ a, vs = [.ref a] ∧ ((∃ xs, SqL K HA a xs ∧ R (IteL K a xs.length) HA) ∨ ∃ xs, SqT K HA a xs ∧ R (IteT K a xs.length) HA)
theorem pi_enumT {X : Cx} {e : Expr} {ta : TA} {p pos tpos : Pos} {elts : List Expr} {kk : Nat} (hGg : Gl X "enumerate") (hMm : X.mg "enumerate" = none) (ha : PA X [e] ta) (hs : starEach [e] X.env = [(false, eval e X.env)] := by rfl) :
    PI X (.Tuple elts kk tpos) (.Call (.Name "enumerate" p) [e] [] pos) (iEnumT X.K ta) := by
  refine ⟨fun pnz s σ H R I h => ?_⟩
  refine Call_ (ld_blt I hGg hMm boot_enumerate (PyProof.Rows.callWith_type1 (thn (ha.run pos pnz s σ H _ I h) fun us sA ⟨vs, HA, IA, rA, qA⟩ => ?_) hs rfl))
  obtain ⟨a, ex, qA⟩ := qA
  subst ex
  have lower : ∀ {b x y : Addr}, sA.heap.objs.size ≤ x → sA.heap.objs.size ≤ y → b = x ∨ b = y → FpOk X pnz HA b := fun {b x y} hXx hy z => by
    have hLe : sA.heap.objs.size ≤ b := by
      rcases z with z | z
      · rw [z]; exact hXx
      · rw [z]; exact hy
    exact IA.fpOk hLe (IA.hok.fresh hLe)
  cases rA with
  | cons r rr =>
    cases rr
    cases r
    rcases qA with ⟨xs, hQq, q⟩ | ⟨xs, hQq, q⟩
    · obtain ⟨itz, rVs, p', hZz⟩ := IA.list hQq
      refine call_enumerate_list p'.isList fun h' he hIt hSz hKk => wpAny_pyIter_enum he ?_
      have IB : Inv X pnz σ HA { sA with heap := h' } := IA.kept (t' := sA.toks) hKk
      have la : a < sA.heap.objs.size := by obtain ⟨o, hOo, _⟩ := p'.isList; exact Heap.lt_size hOo
      refine ⟨sA.heap.objs.size + 1, [sA.heap.objs.size + 1, sA.heap.objs.size], _, _, HA, rfl, IB, turn_enumL a (sA.heap.objs.size + 1) sA.heap.objs.size xs.length (Nat.ne_of_gt (Nat.lt_succ_of_lt la)) (Nat.ne_of_lt la) (Nat.succ_ne_self _), ⟨⟨.none, he⟩, hIt, trivial⟩, fun b hb => lower (Nat.le_add_right _ 1) (Nat.le_refl _) (by simpa using hb), q⟩
    · obtain ⟨itz, rVs, p', hZz⟩ := IA.tuple hQq
      have la : a < sA.heap.objs.size := by obtain ⟨o, hOo, _⟩ := p'; exact Heap.lt_size hOo
      refine DLenum.call_enum_tuple p' fun h' he hIt hSz hKk => wpAny_pyIter_enum he ?_
      have IB : Inv X pnz σ HA { sA with heap := h' } := IA.kept (t' := sA.toks) hKk
      refine ⟨sA.heap.objs.size + 1, [sA.heap.objs.size + 1, sA.heap.objs.size], _, _, HA, rfl, IB, turn_enumT a (sA.heap.objs.size + 1) sA.heap.objs.size xs.length (Nat.ne_of_gt (Nat.lt_succ_of_lt la)) (Nat.ne_of_lt la) (Nat.succ_ne_self _), ⟨⟨.none, he⟩, hIt, trivial⟩, fun b hb => lower (Nat.le_add_right _ 1) (Nat.le_refl _) (by simpa using hb), q⟩
/-- a list or a tuple, whichever comes -/
def iSeq (K : PySem.W.Frag) (tl : TE) : TI := fun σ H R => tl σ H fun x HA => ∃ a, x = .ref a ∧ ((∃ xs, SqL K HA a xs ∧ R (Itl K a) HA) ∨ ∃ xs, SqT K HA a xs ∧ R (Itt K a) HA)
theorem pi_seq {X : Cx} {tg l : Expr} {tl : TE} (hLl : PE X l tl) : PI X tg l (iSeq X.K tl) := by
  refine ⟨fun pnz s σ H R I h => ?_⟩
  refine thn (hLl.run pnz s σ H _ I h) fun v sA ⟨x, HA, IA, rA, a, e, qA⟩ => ?_
  subst e
  cases rA
  have one : ∀ b ∈ [sA.heap.objs.size], FpOk X pnz HA b := fun b hb => by
    have e : b = sA.heap.objs.size := by simpa using hb
    rw [e]
    exact IA.fpOk (Nat.le_refl _) (IA.hok.fresh (Nat.le_refl _))
  rcases qA with ⟨xs, hQq, q⟩ | ⟨xs, hQq, q⟩
  · obtain ⟨itz, rVs, p, hZz⟩ := IA.list hQq
    exact wpAny_pyIter_list p.isList ⟨sA.heap.objs.size, [sA.heap.objs.size], _, _, HA, rfl, IA.kept (t' := sA.toks) fun b o e => Heap.get?_push_of_some _ e, turn_list a _, ⟨_, Heap.get?_push_size _ rfl, rfl, rfl⟩, one, q⟩
  · obtain ⟨itz, rVs, p, hZz⟩ := IA.tuple hQq
    exact wpAny_pyIter_tuple (show sA.heap.IsTuple a itz.toArray from p) ⟨sA.heap.objs.size, [sA.heap.objs.size], _, _, HA, rfl, IA.kept (t' := sA.toks) fun b o e => Heap.get?_push_of_some _ e, turn_tuple a _, ⟨_, Heap.get?_push_size _ rfl, rfl, rfl⟩, one, q⟩
/-! ### for over what comes -/
def itemsOf : D → Option (List D)
  | .list ds => some ds
  | .tuple ds => some ds
  | .dict [(.none, .list ds)] => some ds
  | _ => none
theorem items_dict {es : List (D × D)} {ds : List D} (h : itemsOf (.dict es) = some ds) : PyData.dict es = scrD ds := by
  unfold itemsOf at h
  split at h <;> first | (cases h; done) | skip
  · rename_i e
    cases e
  · rename_i e
    cases e
  · rename_i e
    cases h
    exact e
/-- numbered: each item in a pair with itz number -/
def pairsFrom : Nat → List D → List D
  | _, [] => []
  | i, d :: ds => .tuple [.int (i : Nat), d] :: pairsFrom (i + 1) ds
theorem pairs_len : ∀ (ds : List D) (i : Nat), (pairsFrom i ds).length = ds.length
  | [], _ => rfl
  | d :: ds, i => congrArg (· + 1) (pairs_len ds (i + 1))
theorem pairs_at : ∀ (ds : List D) (i m : Nat) (d : D), ds[m]? = some d → (pairsFrom i ds)[m]? = some (.tuple [.int ((i + m : Nat)), d])
  | [], _, _, _, h => by simp at h
  | e :: ds, i, 0, d, h => by
    have z : e = d := by simpa using h
    subst z
    rfl
  | e :: ds, i, m + 1, d, h => by
    have q := pairs_at ds (i + 1) m d (by simpa using h)
    show (pairsFrom (i + 1) ds)[m]? = _
    rw [q, show i + 1 + m = i + (m + 1) by omega]
def sForS (f : FE) (tgt : FG) (body : FS) : FS := fun env => (f env).bind fun d => match itemsOf d with
  | some ds => forD tgt body ds env
  | none => .fail
def sForE (r : FL) (tgt : FG) (body : FS) : FS := fun env => (r env).bind fun ds => match ds with
  | [d] => match itemsOf d with
    | some ds => forD tgt body (pairsFrom 0 ds) env
    | none => .fail
  | _ => .fail
section
variable {X : Cx} {k : Kd} {sTt : Stmt} {pos : Pos}
/-- the walk of a list that is no more own, or of a tuple: what each turn reads -/
structure Src (K : PySem.W.Frag) (N : Addr → Prop) (H : Hp) (J : It) (ds : List D) : Prop where
  go : ∀ i N' HB, Pres K N N' H HB → (∀ x, N' x → HB x ≠ none) → i < ds.length → J.go i HB ∧ ∀ x H', J.yld i HB x H' → Same HB H' ∧ ∃ d, ds[i]? = some d ∧ In K N' H' x d
  stop : ∀ N' HB, Pres K N N' H HB → J.stop ds.length HB
theorem walk_src {K : PySem.W.Frag} {k : Kd} {ω : Option Om} {N0 N N1 : Addr → Prop} {E H HA : Hp} {D' : Ends} {tgt : FG} {body : FS} {env : Ev} {σ : L2.St} {b : Nat} {J : It} {ds : List D}
    (r : RepE K ω N1 E HA b env σ) (n0 : ∀ x, N0 x → N1 x) (e0 : ∀ x, N0 x → E x ≠ none) (p : Pres K N N1 H HA) (S : Src K N1 HA J ds) (q : (forD tgt body ds env).All b (EndR K k ω N0 N E H D')) :
    ∃ W : Nat → Nat → L2.St → Hp → Prop, (∃ m, W 0 m σ HA) ∧ ∀ i m σ H, W i m σ H →
      (J.stop i H ∧ D'.nx σ H) ∨ (J.go i H ∧ ∃ N : L2.St → Hp → Prop, (∀ σ' H', N σ' H' → ∃ m', m' < m ∧ W (i + 1) m' σ' H') ∧ ∀ x H', J.yld i H x H' → tG K tgt x σ H' fun σ2 HB => tS K k body { D' with nx := N, ct := N, bk := D'.nx } σ2 HB) := by
  refine ⟨fun i m σ2 HB => ∃ N2 c2 env2, RepE K ω N2 E HB c2 env2 σ2 ∧ (∀ x, N0 x → N2 x) ∧ Pres K N1 N2 HA HB ∧ i + m = ds.length ∧ (forD tgt body (ds.drop i) env2).All c2 (EndR K k ω N0 N E H D'),
    ⟨ds.length, N1, b, env, r, n0, Pres.refl, Nat.zero_add _, q⟩, fun i m σ2 HB ⟨N2, c2, env2, r2, n2, p2, em, q2⟩ => ?_⟩
  by_cases hIi : i < ds.length
  · rw [List.drop_eq_getElem_cons hIi] at q2
    obtain ⟨g1, g2⟩ := S.go i N2 HB p2 r2.dom hIi
    refine .inr ⟨g1, fun σ3 H3 => ∃ N3 c3 env3, RepE K ω N3 E H3 c3 env3 σ3 ∧ (∀ x, N0 x → N3 x) ∧ Pres K N1 N3 HA H3 ∧ (forD tgt body (ds.drop (i + 1)) env3).All c3 (EndR K k ω N0 N E H D'),
      fun σ3 H3 ⟨N3, c3, env3, r3, n3, p3, q3⟩ => ⟨m - 1, by omega, N3, c3, env3, r3, n3, p3, by omega, q3⟩, fun x H3 hy => ?_⟩
    obtain ⟨sm, d, ed, hDd⟩ := g2 x H3 hy
    rw [List.getElem?_eq_getElem hIi] at ed
    cases ed
    have r3 := r2.move (Keep.of sm) (r2.orc.same sm)
    have p3 : Pres K N2 N2 HB H3 := Pres.keep r2.om (Keep.of (ω := ω) sm)
    exact turn_for r3 n2 e0 (p.trans (p2.trans p3)) hDd q2 fun N4 H4 σ4 c4 env4 r4 n4 p4 q4 => ⟨N4, c4, env4, r4, n4, (p2.trans p3).trans p4, q4⟩
  · have ei : i = ds.length := by omega
    subst ei
    refine .inl ⟨S.stop N2 HB p2, ?_⟩
    rw [List.drop_length] at q2
    exact q2 N2 HB σ2 r2 n2 (p.trans p2)
theorem src_list {K : PySem.W.Frag} {N : Addr → Prop} {H : Hp} {a : Addr} {ds : List D} (h : In K N H (.ref a) (.list ds)) : Src K N H (Itl K a) ds where
  go := fun i N' HB p dom hIi => by
    obtain ⟨a', xs, ea, ha, h1⟩ := (p _ _ h).list_inv
    cases ea
    have hXx : i < xs.length := by rw [h1.length]; exact hIi
    refine ⟨⟨xs, xs[i], .inl (.inl ha), List.getElem?_eq_getElem hXx⟩, fun x H' ⟨eH, hy⟩ => ?_⟩
    subst eH
    exact ⟨Same.refl _, h1.get (hy _ (.inl (.inl ha)))⟩
  stop := fun N' HB p => by
    obtain ⟨a', xs, ea, ha, h1⟩ := (p _ _ h).list_inv
    cases ea
    exact ⟨xs, .inl (.inl ha), Nat.le_of_eq h1.length⟩
theorem src_scr {K : PySem.W.Frag} {N : Addr → Prop} {H : Hp} {a : Addr} {ds : List D} (h : In K N H (.ref a) (scrD ds)) : Src K N H (Itl K a) ds where
  go := fun i N' HB p dom hIi => by
    obtain ⟨a', xs, ea, hs, h1⟩ := (p _ _ h).scr_inv
    cases ea
    have hXx : i < xs.length := by rw [h1.length]; exact hIi
    refine ⟨⟨xs, xs[i], hs.seq, List.getElem?_eq_getElem hXx⟩, fun x H' ⟨eH, hy⟩ => ?_⟩
    subst eH
    exact ⟨Same.refl _, h1.get (hy _ hs.seq)⟩
  stop := fun N' HB p => by
    obtain ⟨a', xs, ea, hs, h1⟩ := (p _ _ h).scr_inv
    cases ea
    exact ⟨xs, hs.seq, Nat.le_of_eq h1.length⟩
theorem src_tuple {K : PySem.W.Frag} {N : Addr → Prop} {H : Hp} {a : Addr} {ds : List D} (h : In K N H (.ref a) (.tuple ds)) : Src K N H (Itt K a) ds where
  go := fun i N' HB p dom hIi => by
    obtain ⟨a', xs, ea, ha, h1⟩ := (p _ _ h).tuple_inv
    cases ea
    have hXx : i < xs.length := by rw [h1.length]; exact hIi
    refine ⟨⟨xs, xs[i], ha, List.getElem?_eq_getElem hXx⟩, fun x H' ⟨eH, hy⟩ => ?_⟩
    subst eH
    exact ⟨Same.refl _, h1.get (hy _ ha)⟩
  stop := fun N' HB p => by
    obtain ⟨a', xs, ea, ha, h1⟩ := (p _ _ h).tuple_inv
    cases ea
    exact ⟨xs, ha, Nat.le_of_eq h1.length⟩
theorem pair_in {K : PySem.W.Frag} {N' : Addr → Prop} {HB : Hp} {T : Addr} {o : Obj} {x : V} {d : D} {i : Nat} (hTt : HB T = none) (dom : ∀ x, N' x → HB x ≠ none) (od : o.dict = none) (h : In K N' HB x d) : In K N' (upd HB T (.frz o (.tup [.int (i : Nat), x]))) (.ref T) (.tuple [.int (i : Nat), d]) :=
  In.newTup (.cons (.int _) (.cons h .nil)) hTt dom od
theorem src_enumL {K : PySem.W.Frag} {N : Addr → Prop} {H : Hp} {a : Addr} {ds : List D} {n : Nat} (hNn : n = ds.length) (h : In K N H (.ref a) (.list ds)) : Src K N H (IteL K a n) (pairsFrom 0 ds) where
  go := fun i N' HB p dom hIi => by
    rw [pairs_len] at hIi
    obtain ⟨a', xs, ea, ha, h1⟩ := (p _ _ h).list_inv
    cases ea
    have hXx : i < xs.length := by rw [h1.length]; exact hIi
    refine ⟨⟨by rw [hNn]; exact hIi, xs, xs[i], .inl (.inl ha), by rw [h1.length, hNn], List.getElem?_eq_getElem hXx⟩, fun v H' ⟨T, x, o, ev, hTt, eH, od, hy⟩ => ?_⟩
    subst ev eH
    obtain ⟨d, ed, hDd⟩ := h1.get (hy _ (.inl (.inl ha)))
    have q := pairs_at ds 0 i d ed
    rw [Nat.zero_add] at q
    exact ⟨same_new hTt, _, q, pair_in hTt dom od hDd⟩
  stop := fun N' HB p => by
    obtain ⟨a', xs, ea, ha, h1⟩ := (p _ _ h).list_inv
    cases ea
    exact ⟨by rw [pairs_len, hNn], xs, .inl (.inl ha), by rw [h1.length, hNn]⟩
theorem src_enumS {K : PySem.W.Frag} {N : Addr → Prop} {H : Hp} {a : Addr} {ds : List D} {n : Nat} (hNn : n = ds.length) (h : In K N H (.ref a) (scrD ds)) : Src K N H (IteL K a n) (pairsFrom 0 ds) where
  go := fun i N' HB p dom hIi => by
    rw [pairs_len] at hIi
    obtain ⟨a', xs, ea, hs, h1⟩ := (p _ _ h).scr_inv
    cases ea
    have hXx : i < xs.length := by rw [h1.length]; exact hIi
    refine ⟨⟨by rw [hNn]; exact hIi, xs, xs[i], hs.seq, by rw [h1.length, hNn], List.getElem?_eq_getElem hXx⟩, fun v H' ⟨T, x, o, ev, hTt, eH, od, hy⟩ => ?_⟩
    subst ev eH
    obtain ⟨d, ed, hDd⟩ := h1.get (hy _ hs.seq)
    have q := pairs_at ds 0 i d ed
    rw [Nat.zero_add] at q
    exact ⟨same_new hTt, _, q, pair_in hTt dom od hDd⟩
  stop := fun N' HB p => by
    obtain ⟨a', xs, ea, hs, h1⟩ := (p _ _ h).scr_inv
    cases ea
    exact ⟨by rw [pairs_len, hNn], xs, hs.seq, by rw [h1.length, hNn]⟩
theorem src_enumT {K : PySem.W.Frag} {N : Addr → Prop} {H : Hp} {a : Addr} {ds : List D} {n : Nat} (hNn : n = ds.length) (h : In K N H (.ref a) (.tuple ds)) : Src K N H (IteT K a n) (pairsFrom 0 ds) where
  go := fun i N' HB p dom hIi => by
    rw [pairs_len] at hIi
    obtain ⟨a', xs, ea, ha, h1⟩ := (p _ _ h).tuple_inv
    cases ea
    have hXx : i < xs.length := by rw [h1.length]; exact hIi
    refine ⟨⟨by rw [hNn]; exact hIi, xs, xs[i], ha, by rw [h1.length, hNn], List.getElem?_eq_getElem hXx⟩, fun v H' ⟨T, x, o, ev, hTt, eH, od, hy⟩ => ?_⟩
    subst ev eH
    obtain ⟨d, ed, hDd⟩ := h1.get (hy _ ha)
    have q := pairs_at ds 0 i d ed
    rw [Nat.zero_add] at q
    exact ⟨same_new hTt, _, q, pair_in hTt dom od hDd⟩
  stop := fun N' HB p => by
    obtain ⟨a', xs, ea, ha, h1⟩ := (p _ _ h).tuple_inv
    cases ea
    exact ⟨by rw [pairs_len, hNn], xs, ha, by rw [h1.length, hNn]⟩
theorem xs_forS {f : FE} {tgt : FG} {body : FS} (h : PS X sTt (tFor (iSeq X.K (tX X.K .v f)) (tG X.K tgt) (tS X.K k body))) : XS X k sTt (sForS f tgt body) :=
  weakS h fun D' σ H ⟨ω, N0, N, E, b, env, r, n0, e0, q⟩ => by
  refine ⟨ω, N, E, b, env, r, Tr.All_mono ((Tr.All_bind _ _ _ _).mp q) fun d c qa v HA k1 o1 i1 => ?_⟩
  have rA := r.move k1 o1
  have p1 := Pres.keep (K := X.K) r.om k1
  cases d with
  | list ds =>
    have i2 := i1
    obtain ⟨a, xs, rfl, ha, h1⟩ := In.list_inv i1
    exact ⟨a, rfl, .inl ⟨xs, .inl (.inl ha), walk_src rA n0 e0 p1 (src_list i2) qa⟩⟩
  | tuple ds =>
    have i2 := i1
    obtain ⟨a, xs, rfl, ha, h1⟩ := In.tuple_inv i1
    exact ⟨a, rfl, .inr ⟨xs, ha, walk_src rA n0 e0 p1 (src_tuple i2) qa⟩⟩
  | dict es =>
    cases hI : itemsOf (.dict es) with
    | none => rw [hI] at qa; exact qa.elim
    | some ds =>
      rw [hI] at qa
      rw [items_dict hI] at i1
      have i2 := i1
      obtain ⟨a, xs, rfl, hs, h1⟩ := In.scr_inv i1
      exact ⟨a, rfl, .inl ⟨xs, hs.seq, walk_src rA n0 e0 p1 (src_scr i2) qa⟩⟩
  | _ => exact qa.elim
theorem xs_forE {r : FL} {tgt : FG} {body : FS} (h : PS X sTt (tFor (iEnumT X.K (tL X.K r)) (tG X.K tgt) (tS X.K k body))) : XS X k sTt (sForE r tgt body) :=
  weakS h fun D' σ H ⟨ω, N0, N, E, b, env, r, n0, e0, q⟩ => by
  refine ⟨ω, N, E, b, env, r, Tr.All_mono ((Tr.All_bind _ _ _ _).mp q) fun ds c qa vs HA k1 o1 i1 => ?_⟩
  have rA := r.move k1 o1
  have p1 := Pres.keep (K := X.K) r.om k1
  match ds, qa, i1 with
  | [d], qa, .cons i1 .nil =>
    cases d with
    | list ds =>
      have i2 := i1
      obtain ⟨a, xs, rfl, ha, h1⟩ := In.list_inv i1
      exact ⟨a, rfl, .inl ⟨xs, .inl (.inl ha), walk_src rA n0 e0 p1 (src_enumL h1.length i2) qa⟩⟩
    | tuple ds =>
      have i2 := i1
      obtain ⟨a, xs, rfl, ha, h1⟩ := In.tuple_inv i1
      exact ⟨a, rfl, .inr ⟨xs, ha, walk_src rA n0 e0 p1 (src_enumT h1.length i2) qa⟩⟩
    | dict es =>
      cases hI : itemsOf (.dict es) with
      | none => simp only [hI] at qa; exact qa.elim
      | some ds =>
        simp only [hI] at qa
        rw [items_dict hI] at i1
        have i2 := i1
        obtain ⟨a, xs, rfl, hs, h1⟩ := In.scr_inv i1
        exact ⟨a, rfl, .inl ⟨xs, hs.seq, walk_src rA n0 e0 p1 (src_enumS h1.length i2) qa⟩⟩
    | _ => exact qa.elim
end
end DL
end
section
set_option linter.all false
set_option maxRecDepth 100000
namespace DL
open PySem PySem.Spec PyProof.Rows L2
/-! ### a, b = x, y -/
def setS (o : Bool) (i : Nat) (d : D) (env : Ev) : Ev := env.set i (some (if o = true then .own d else .val d))
def kdOf (o : Bool) : Kd := if o = true then .o else .v
def sPar (o1 o2 : Bool) (i j : Nat) (f1 f2 : FE) : FS := fun env => (f1 env).bind fun x => (f2 env).bind fun y => .ret (.nx (setS o2 j y (setS o1 i x env)))
/-- the frame with one more slot filled: N grows by what is own -/
theorem RepE.fill {K : PySem.W.Frag} {ω : Option Om} {N : Addr → Prop} {E H H1 : Hp} {b c : Nat} {env : Ev} {σ : L2.St} {o : Bool} {i : Nat} {x : D} {v : V} (r : RepE K ω N E H b env σ) (k1 : Keep ω H H1) (oo : OrcO ω c H1) (h : RK K ω N H H1 (kdOf o) v x) :
    ∃ N1, RepE K ω N1 E H1 c env σ ∧ RepE K ω N1 E H1 c (setS o i x env) (σ.set i (some v)) ∧ (∀ z, N z → N1 z) ∧ Pres K N N1 H H1 := by
  cases o with
  | false => exact ⟨N, r.move k1 oo, (r.move k1 oo).setV h, fun _ z => z, Pres.keep r.om k1⟩
  | true =>
    obtain ⟨p, rfl, hp, h1⟩ := h
    obtain ⟨op, ep⟩ := h1.there
    refine ⟨addN N p, r.more k1 oo hp (by rw [ep]; exact fun q => nomatch q), r.own k1 oo hp h1, fun _ z => .inl z, fun v d hv => ?_⟩
    exact hv.mono (fun x z => z.elim .inl fun e => .inr (by rw [e]; exact hp)) fun x o e n => k1 x o e fun z => n (r.om x z)
theorem xs_par {X : Cx} {k : Kd} {st : Stmt} {o1 o2 : Bool} {i j : Nat} {f1 f2 : FE} (h : PS X st (tPar i j (tCons (tX X.K (kdOf o1) f1) (tCons (tX X.K (kdOf o2) f2) tNil)))) : XS X k st (sPar o1 o2 i j f1 f2) := weakS h fun D' σ H ⟨ω, N0, N, E, b, env, r, n0, e0, q⟩ => by
  refine ⟨ω, N, E, b, env, r, Tr.All_mono ((Tr.All_bind _ _ _ _).mp q) fun x c qa v H1 k1 o1' i1 => ?_⟩
  obtain ⟨N1, rA, rB, s1, p1⟩ := r.fill (i := i) k1 o1' i1
  refine ⟨ω, N1, E, c, env, rA, Tr.All_mono ((Tr.All_bind _ _ _ _).mp qa) fun y c2 qb u H2 k2 o2' i2 => ⟨v, u, rfl, ?_⟩⟩
  obtain ⟨N2, _, rC, s2, p2⟩ := rB.fill (i := j) k2 o2' i2
  exact qb N2 H2 _ rC (fun z hz => s2 z (s1 z (n0 z hz))) (p1.trans p2)
/-! ### dicts of whole numbers and texts -/
def keyOf : D → Option Key
  | .int i => some (.inl i)
  | .str x => some (.inr x)
  | _ => none
theorem keyD_of {d : D} {k : Key} (h : keyOf d = some k) : keyD k = d := by
  cases d <;> first | (cases h; done) | (cases h; rfl)
theorem keyOf_D (k : Key) : keyOf (keyD k) = some k := by cases k <;> rfl
def isKey (k : Key) (d : D) : Bool := decide (keyOf d = some k)
def getD (es : List (D × D)) (k : Key) : Option D := (es.find? fun e => isKey k e.1).map (·.2)
def putD (es : List (D × D)) (k : Key) (v : D) : List (D × D) := if (es.any fun e => isKey k e.1) = true then es.map fun e => if isKey k e.1 = true then (e.1, v) else e else es ++ [(keyD k, v)]
section
variable {K : PySem.W.Frag} {N : Addr → Prop} {H : Hp}
theorem isKey_iff (k j : Key) : isKey k (keyD j) = decide (j = k) := by
  unfold isKey
  rw [keyOf_D]
  by_cases e : j = k
  · subst e; simp
  · simp [e]
theorem InKV.get {k : Key} : ∀ {kvs : List (Key × V)} {es : List (D × D)}, InKV K N H kvs es → (valV kvs k = none ∧ getD es k = none) ∨ ∃ v d, valV kvs k = some v ∧ getD es k = some d ∧ In K N H v d
  | _, _, .nil => .inl ⟨rfl, rfl⟩
  | _, _, @InKV.cons _ _ _ j v vs d ds h t => by
    by_cases e : j = k
    · refine .inr ⟨v, d, valV_pos e, ?_, h⟩
      unfold getD
      rw [List.find?_cons, isKey_iff, decide_eq_true e]
      rfl
    · rw [valV_neg (p := (j, v)) (by exact e)]
      have z : getD ((keyD j, d) :: ds) k = getD ds k := by
        unfold getD
        rw [List.find?_cons, isKey_iff, decide_eq_false e]
      rw [z]
      exact InKV.get t
theorem InKV.any {k : Key} : ∀ {kvs : List (Key × V)} {es : List (D × D)}, InKV K N H kvs es → (kvs.any fun kv => decide (kv.1 = k)) = es.any fun e => isKey k e.1
  | _, _, .nil => rfl
  | _, _, @InKV.cons _ _ _ j v vs d ds h t => by
    rw [List.any_cons, List.any_cons, isKey_iff, InKV.any t]
theorem InKV.snoc {k : Key} {v : V} {d : D} (hv : In K N H v d) : ∀ {kvs : List (Key × V)} {es : List (D × D)}, InKV K N H kvs es → InKV K N H (kvs ++ [(k, v)]) (es ++ [(keyD k, d)])
  | _, _, .nil => .cons hv .nil
  | _, _, .cons h t => .cons h (t.snoc hv)
theorem InKV.mapSet {k : Key} {v : V} {d : D} (hv : In K N H v d) : ∀ {kvs : List (Key × V)} {es : List (D × D)}, InKV K N H kvs es → InKV K N H (kvs.map fun kv => if kv.1 = k then (kv.1, v) else kv) (es.map fun e => if isKey k e.1 = true then (e.1, d) else e)
  | _, _, .nil => .nil
  | _, _, @InKV.cons _ _ _ j w vs d2 ds h t => by
    rw [List.map_cons, List.map_cons]
    have e1 : isKey k (keyD j) = decide (j = k) := isKey_iff k j
    by_cases e : j = k
    · rw [if_pos (show (j, w).1 = k from e), if_pos (show isKey k (keyD j, d2).1 = true by rw [show (keyD j, d2).1 = keyD j from rfl, e1, decide_eq_true e])]
      exact .cons hv (t.mapSet hv)
    · rw [if_neg (show ¬ (j, w).1 = k from e), if_neg (show ¬ isKey k (keyD j, d2).1 = true by rw [show (keyD j, d2).1 = keyD j from rfl, e1, decide_eq_false e]; exact Bool.false_ne_true)]
      exact .cons h (t.mapSet hv)
theorem InKV.put {k : Key} {v : V} {d : D} (hv : In K N H v d) {kvs : List (Key × V)} {es : List (D × D)} (h : InKV K N H kvs es) : InKV K N H (putK kvs k v) (putD es k d) := by
  unfold putK putD
  rw [h.any]
  by_cases e : (es.any fun e => isKey k e.1) = true
  · rw [if_pos e, if_pos e]; exact h.mapSet hv
  · rw [if_neg e, if_neg e]; exact h.snoc hv
theorem InKV.len : ∀ {kvs : List (Key × V)} {es : List (D × D)}, InKV K N H kvs es → kvs.length = es.length
  | _, _, .nil => rfl
  | _, _, .cons _ t => congrArg (· + 1) t.len
theorem key_val {ω : Option Om} {v : V} {d : D} {k : Key} (h : InB K ω N H v d) (e : keyOf d = some k) : v = kV k := by
  cases d with
  | int i => cases e; exact h.int
  | str x => cases e; exact h.str
  | _ => cases e
end
def eDNew : FE := fun _ => .ret (.dict [])
theorem xe_dnew {X : Cx} {pos : Pos} : XE X .o (.Dict [] [] pos) eDNew := weak pe_dnewK fun σ H Q ⟨ω, N, E, b, env, r, q⟩ => fun p hp => q _ _ (Keep.of (same_new hp)) (r.orc.same (same_new hp)) ⟨p, rfl, hp, [], upd_same, .nil⟩
section
variable {X : Cx} {k : Kd} {st : Stmt} {e : Expr} {pos : Pos}
/-- y in d, d an own dict -/
def eDIn (neg : Bool) (i : Nat) (fk : FE) : FE := fun env => match env[i]? with
  | some (some (.own (.dict es))) => (fk env).bind fun y => match keyOf y with
    | some k => .ret (.bool (if neg = true then !(getD es k).isSome else (getD es k).isSome))
    | none => .fail
  | _ => .fail
theorem own_dict {K : PySem.W.Frag} {ω : Option Om} {N : Addr → Prop} {E H H1 : Hp} {b : Nat} {env : Ev} {σ : L2.St} {i : Nat} {es : List (D × D)} (r : RepE K ω N E H b env σ) (hi : env[i]? = some (some (.own (.dict es)))) :
    ∃ a, σ[i]? = some (some (.ref a)) ∧ N a ∧ ¬ OmAt ω a ∧ E a = none ∧ ∀ H1, Keep ω H H1 → ∃ kvs, H1 a = some (.dK kvs) ∧ InKV K N H1 kvs es := by
  obtain ⟨v, hs, a, rfl, na, no, ea, h⟩ := r.slot i _ hi
  exact ⟨a, hs, na, no, ea, fun H1 k1 => h.keep r.om k1 no⟩
theorem xe_din {i : Nat} {fk : FE} (h : PE X e (tDIn (tX X.K .b fk) (tVar i))) : XE X .v e (eDIn false i fk) := weak h fun σ H Q ⟨ω, N, E, b, env, r, q⟩ => by
  unfold eDIn at q
  split at q
  · rename_i es hi
    obtain ⟨a, hs, na, no, ea, hd⟩ := own_dict (H1 := H) r hi
    refine ⟨ω, N, E, b, env, r, Tr.All_mono ((Tr.All_bind _ _ _ _).mp q) fun y c qa v H1 k1 o1 i1 => ?_⟩
    cases ek : keyOf y with
    | none => simp only [ek] at qa; exact qa.elim
    | some kk =>
      simp only [ek] at qa
      obtain ⟨kvs, e1, h1⟩ := hd H1 k1
      have ev := key_val i1 ek
      subst ev
      refine ⟨_, hs, a, valV kvs kk, rfl, DGet.k e1, qa _ H1 k1 o1 ?_⟩
      rcases h1.get (k := kk) with ⟨z1, z2⟩ | ⟨w, d, z1, z2, _⟩
      · rw [z1, z2]; exact .bl _
      · rw [z1, z2]; exact .bl _
  · exact q.elim
theorem xe_dnotin {i : Nat} {fk : FE} (h : PE X e (tDNotIn (tX X.K .b fk) (tVar i))) : XE X .v e (eDIn true i fk) := weak h fun σ H Q ⟨ω, N, E, b, env, r, q⟩ => by
  unfold eDIn at q
  split at q
  · rename_i es hi
    obtain ⟨a, hs, na, no, ea, hd⟩ := own_dict (H1 := H) r hi
    refine ⟨ω, N, E, b, env, r, Tr.All_mono ((Tr.All_bind _ _ _ _).mp q) fun y c qa v H1 k1 o1 i1 => ?_⟩
    cases ek : keyOf y with
    | none => simp only [ek] at qa; exact qa.elim
    | some kk =>
      simp only [ek] at qa
      obtain ⟨kvs, e1, h1⟩ := hd H1 k1
      have ev := key_val i1 ek
      subst ev
      refine ⟨_, hs, a, valV kvs kk, rfl, DGet.k e1, qa _ H1 k1 o1 ?_⟩
      rcases h1.get (k := kk) with ⟨z1, z2⟩ | ⟨w, d, z1, z2, _⟩
      · rw [z1, z2]; exact .bl _
      · rw [z1, z2]; exact .bl _
  · exact q.elim
/-- a test of them -/
theorem weakTB {f : FE} {t : TE} (h : PT X e (L2.tB t)) (k : ∀ σ H Q, tX X.K .v f σ H Q → t σ H Q) : XT X e (tt f) := weakT h fun σ H Q q => by
  have q2 : tX X.K .v f σ H fun x H' => ∃ k, x = .bl k ∧ Q k H' := readT q
  exact k _ _ _ q2
/-- d[y], d own -/
def eDGet (i : Nat) (fk : FE) : FE := fun env => match env[i]? with
  | some (some (.own (.dict es))) => (fk env).bind fun y => match keyOf y with
    | some k => Tr.ofOpt (getD es k)
    | none => .fail
  | _ => .fail
theorem xe_dget {i : Nat} {fk : FE} (h : PE X e (tDGet (tVar i) (tX X.K .b fk))) : XE X .v e (eDGet i fk) := weak h fun σ H Q ⟨ω, N, E, b, env, r, q⟩ => by
  unfold eDGet at q
  split at q
  · rename_i es hi
    obtain ⟨a, hs, na, no, ea, hd⟩ := own_dict (H1 := H) r hi
    refine ⟨_, hs, ω, N, E, b, env, r, Tr.All_mono ((Tr.All_bind _ _ _ _).mp q) fun y c qa v H1 k1 o1 i1 => ?_⟩
    cases ek : keyOf y with
    | none => simp only [ek] at qa; exact qa.elim
    | some kk =>
      simp only [ek] at qa
      obtain ⟨kvs, e1, h1⟩ := hd H1 k1
      have ev := key_val i1 ek
      subst ev
      rcases h1.get (k := kk) with ⟨z1, z2⟩ | ⟨w, d, z1, z2, hw⟩
      · rw [z2] at qa; exact qa.elim
      · rw [z2] at qa
        have g := DGet.k (k := kk) e1
        rw [z1] at g
        exact ⟨a, w, rfl, g, qa _ H1 k1 o1 hw⟩
  · exact q.elim
/-- d[y] = v, d own -/
def sDPutD (i : Nat) (fk fv : FE) : FS := fun env => match env[i]? with
  | some (some (.own (.dict es))) => (fv env).bind fun x => (fk env).bind fun y => match keyOf y with
    | some k => if es.length < sizeLine then .ret (.nx (env.set i (some (.own (.dict (putD es k x)))))) else .fail
    | none => .fail
  | _ => .fail
theorem xs_dput {i : Nat} {fk fv : FE} (h : PS X st (sDPut (tVar i) (tX X.K .b fk) (tX X.K .v fv))) : XS X k st (sDPutD i fk fv) := weakS h fun D' σ H ⟨ω, N0, N, E, b, env, r, n0, e0, q⟩ => by
  unfold sDPutD at q
  split at q
  · rename_i es hi
    obtain ⟨a, hs, na, no, ea, hd⟩ := own_dict (H1 := H) r hi
    refine ⟨ω, N, E, b, env, r, Tr.All_mono ((Tr.All_bind _ _ _ _).mp q) fun x c qa v H1 k1 o1 i1 => ?_⟩
    refine ⟨_, hs, ω, N, E, c, env, r.move k1 o1, Tr.All_mono ((Tr.All_bind _ _ _ _).mp qa) fun y c2 qb u H2 k2 o2 i2 => ?_⟩
    cases ek : keyOf y with
    | none => simp only [ek] at qb; exact qb.elim
    | some kk =>
      simp only [ek] at qb
      split at qb
      · rename_i hz
        obtain ⟨kvs, e1, h1⟩ := hd H2 (k1.trans k2)
        have ev := key_val i2 ek
        subst ev
        refine ⟨a, _, rfl, DPut.k e1 (by rw [h1.len]; exact hz), ?_⟩
        have kk2 : ∀ x ob, H2 x = some ob → ¬ N x → upd H2 a (.dK (putK kvs kk v)) x = some ob := fun x ob e n => by
          rw [upd_ne (fun z => n (by rw [z]; exact na))]
          exact e
        exact qb N _ σ (((r.move k1 o1).move k2 o2).write hi hs na no ea ⟨putK kvs kk v, upd_same, (h1.put (In.keep i1 r.om k2)).mono (fun _ z => .inl z) kk2⟩) n0 (((Pres.keep r.om k1).trans (Pres.keep r.om k2)).trans (pres_write na))
      · exact qb.elim
  · exact q.elim
end
end DL
end
section
set_option linter.all false
set_option maxRecDepth 100000
namespace DL
open PySem PySem.Spec PyProof.Rows L2
/-! ### a def as its callers know it -/
/-! ### defs, where no list is being told as text -/
structure FnG (P : Program) (w : World) (K : PySem.W.Frag) (mg : Str → Option Value) (base : Heap) (k : Nat) (f : Addr) (fd : FuncData) (ps : List Str) (sp : Sp) : Prop where
  len : ∀ vs H Q E, sp vs H Q E → vs.length = ps.length
  go : ∀ {A : Around}, A.guards = some [] → Room k A → ∀ {outer : List Env} {s : Shared} {H : Hp} {args : Args} {us : List Value} {vs : List V} {Q : VK} {E : XK}, Env0 P w K mg base A outer s H → BindsTo s fd args (ps.zip us) → Vals vs us → sp vs H Q E →
    codeAny (model P w) A (.call (.ref f) args) (CR CX0 outer P w H s Q E) s
theorem fn_ok {P : Program} {w : World} {K : PySem.W.Frag} {mg : Str → Option Value} {base : Heap} {x qual : Str} {st : Stmt} {f : Addr} {fd : FuncData} {Ns ps : List Str} {m : Nat} {k : Kd} {fb : FS} (F : Fun K x qual st f fd) (S : FnScope Ns ps (defScope st))
    (hbody : ∀ (cdv : Value) (A : Around) (outer : List Env) (s : Shared) (H : Hp) (E : XK), Room m (A.deeper (envOfC qual (defScope st) s.heap.objs.size f cdv)) → A.guards = some [] →
      XSs (cxOf CX0 P w K mg base Ns qual (defScope st) f cdv A outer s H E).nox k (defBody st) fb) : FnG P w K mg base (m + 1) f fd ps (spD K k ps.length (fnF Ns.length k fb)) := by
  obtain ⟨oc, od, kV, doc, pm, an, cdv, ct, osl, rfl, lk, hcd⟩ := F.ex
  have len : ∀ vs H Q E, spD K k ps.length (fnF Ns.length k fb) vs H Q E → vs.length = ps.length := fun vs H Q E ⟨ω, N, b, ss, hl, om, dom, orc, h, q⟩ => h.length.symm.trans hl
  refine ⟨len, fun {A} hg hr {outer s H args us vs Q E} e0 hb hv hs => LamX.run_ofS lk hcd S hr e0 hb hv (len _ _ _ _ hs) fun hr' => ?_⟩
  obtain ⟨ω, N, b, ss, hl, om, dom, orc, h, q⟩ := hs
  refine ⟨_, (hbody cdv A outer s H E hr' hg).nox, ?_⟩
  refine ⟨ω, N, N, H, b, startE Ns.length ss, rep_start om dom orc h, fun _ z => z, dom, Tr.All_mono ((Tr.All_bind _ _ _ _).mp q) fun o c qa => ?_⟩
  cases o with
  | nx env' =>
    cases k with
    | v => exact fun N' H' σ' r n0 p => qa .non H' r.keep r.orc .non
    | b => exact qa.elim
    | o => exact qa.elim
    | t => exact qa.elim
  | bk env' => exact qa.elim
  | ct env' => exact qa.elim
  | rv d => exact qa
structure Cal (P : Program) (w : World) (K : PySem.W.Frag) (mg : Str → Option Value) (base : Heap) (x : Str) (j : Nat) (ps : List Str) (sp : Sp) : Prop where
  ex : ∃ f fd, FnG P w K mg base j f fd ps sp ∧ L2.Binds K fd ps [] ∧ mg x = some (.ref f) ∧ PySem.W.keepIn K (.ref f) = true
section
variable {X : Cx} {e : Expr} {es : List Expr} {pos : Pos}
theorem FnG.call {j : Nat} {f : Addr} {fd : FuncData} {ps : List Str} {sp : Sp} {pins : List (Addr × Obj)} {σ : L2.St} {H : Hp} {s : Shared} {Q : VK} {us : List Value} {vs : List V} (G : FnG X.prog X.w X.K X.mg X.base j f fd ps sp) (hgd : X.A.guards = some []) (hr : Room j X.A) (hb : L2.Binds X.K fd ps [])
    (I : Inv X pins σ H s) (rv : Vals vs us) (h : sp vs H Q E0) : wpAny (model X.prog X.w) X.A (call (.ref f) us) (EP X pins σ Q) X.xe s := by
  have hlen : (us ++ []).length = ps.length := by rw [List.append_nil, ← rv.length]; exact G.len _ _ _ _ h
  have hbd := hb s us I.kIn hlen
  rw [List.append_nil] at hbd
  refine wpAny_call (codeAny_mono (G.go hgd hr I.env0 hbd rv h) fun out s2 fin => ?_)
  match out, fin with
  | .error ex, fin => exact pass0 pins σ H s ex s2 I fin
  | .ok (.ret u), fin => exact I.after fin
theorem xe_callC {x : Str} {p : Pos} {F : List Slot → Tr D} {k : Kd} {n j : Nat} {ps : List Str} {r : FA} (C : Cal X.prog X.w X.K X.mg X.base x j ps (spD X.K k n F)) (hr : Room j X.A) (hgd : X.A.guards = some []) (hg : Gl X x) (ha : PA X (e :: es) (tAs X.K r)) (hn : ArgN r n)
    (hdb : (x == ("__debug__" : Str)) = false := by decide) (he : starEach (e :: es) X.env = (false, eval e X.env) :: starEach es X.env := by rfl) (hpl : (backTo pos (starEach es X.env)).any (·.1) = false := by rfl) : XE X k (.Call (.Name x p) (e :: es) [] pos) (eCall F r) := by
  obtain ⟨f, fd, G, hb, hm, hk⟩ := C.ex
  refine ⟨fun pins s σ H Q I h => wpAny_Call_Name_kw (ld_glob I hg hm (PySem.W.callWith_K (h₀ := X.base) I.ok.mod.kin hk (thn (ha.run pos pins s σ H _ I (readF hn h)) fun us s1 ⟨vs, H1, I1, rv, q⟩ => ⟨I1.kIn, ?_⟩) he hpl) hdb)⟩
  exact G.call hgd hr hb I1 rv (by simpa using q)
theorem xe_callC0 {x : Str} {p : Pos} {F : List Slot → Tr D} {k : Kd} {j : Nat} {ps : List Str} (C : Cal X.prog X.w X.K X.mg X.base x j ps (spD X.K k 0 F)) (hr : Room j X.A) (hgd : X.A.guards = some []) (hg : Gl X x)
    (hdb : (x == ("__debug__" : Str)) = false := by decide) : XE X k (.Call (.Name x p) [] [] pos) (eCall F aNil) := by
  obtain ⟨f, fd, G, hb, hm, hk⟩ := C.ex
  refine ⟨fun pins s σ H Q I h => wpAny_Call_Name_kw (ld_glob I hg hm (PySem.W.callWith_K0 I.kIn hk ?_) hdb)⟩
  obtain ⟨ω, N, E, b, env, r, q⟩ := readF argN_nil h
  exact G.call hgd hr hb I .nil (by simpa using q [] H Keep.refl r.orc .nil)
/-! ### len of an own dict -/
def eDLen (i : Nat) : FE := fun env => match env[i]? with
  | some (some (.own (.dict es))) => .ret (.int (es.length : Nat))
  | _ => .fail
theorem xe_dlen {i : Nat} (h : PE X e (tCB (fun xs H Q => ∃ a kvs, xs = [V.ref a] ∧ H a = some (.dK kvs) ∧ Q (.int kvs.length) H) (tCons (tVar i) tNil))) : XE X .v e (eDLen i) := weak h fun σ H Q ⟨ω, N, E, b, env, r, q⟩ => by
  unfold eDLen at q
  split at q
  · rename_i es hi
    obtain ⟨a, hs, na, no, ea, hd⟩ := own_dict (H1 := H) r hi
    obtain ⟨kvs, e1, h1⟩ := hd H Keep.refl
    exact ⟨_, hs, a, kvs, rfl, e1, q _ H Keep.refl r.orc (by rw [h1.len]; exact .int _)⟩
  · exact q.elim
/-! ### type(x) is T -/
def tyName : D → Option String
  | .none => some "NoneType"
  | .bool _ => some "bool"
  | .int _ => some "int"
  | .str _ => some "str"
  | .list _ => some "list"
  | .tuple _ => some "tuple"
  | .dict _ => none
def fTy (neg : Bool) (T : String) (f : FE) : FT := fun env => (f env).bind fun d => match tyName d with
  | some n => .ret (if neg = true then !decide (n = T) else decide (n = T))
  | none => .fail
theorem ty_in {K : PySem.W.Frag} {ω : Option Om} {N : Addr → Prop} {H : Hp} {v : V} {d : D} {n : String} (h : InB K ω N H v d) (e : tyName d = some n) : TyB K H v n := by
  cases d with
  | none => cases e; cases h.none; exact .non
  | bool b => cases e; cases h.bool; exact .bl b
  | int i => cases e; cases h.int; exact .int i
  | str x => cases e; cases h.str; exact .str x
  | list ds => cases e; obtain ⟨a, xs, rfl, ha, _⟩ := h.list; exact .lst (.inl (.inl ha))
  | tuple ds => cases e; obtain ⟨a, xs, rfl, ha, _⟩ := h.tuple; exact .tup ha
  | dict es => cases e
theorem xt_isTy {T : String} {f : FE} (h : PT X e (tTest (tOp (fun x y H Q => ∃ a b, x = .ty a ∧ y = .ty b ∧ Q (.bl (decide (a = b))) H) (tCB (rTyp X.K) (tCons (tX X.K .b f) tNil)) (tC (.ty T))))) : XT X e (fTy false T f) := weakT h fun σ H Q ⟨ω, N, E, b, env, r, q⟩ => by
  refine ⟨ω, N, E, b, env, r, Tr.All_mono ((Tr.All_bind _ _ _ _).mp q) fun d c qa v H1 k1 o1 i1 => ?_⟩
  cases en : tyName d with
  | none => simp only [en] at qa; exact qa.elim
  | some n =>
    simp only [en] at qa
    exact ⟨v, n, rfl, ty_in i1 en, n, T, rfl, rfl, _, rfl, qa H1 k1 o1⟩
theorem xt_isNotTy {T : String} {f : FE} (h : PT X e (tTest (tOp rNT (tCB (rTyp X.K) (tCons (tX X.K .b f) tNil)) (tC (.ty T))))) : XT X e (fTy true T f) := weakT h fun σ H Q ⟨ω, N, E, b, env, r, q⟩ => by
  refine ⟨ω, N, E, b, env, r, Tr.All_mono ((Tr.All_bind _ _ _ _).mp q) fun d c qa v H1 k1 o1 i1 => ?_⟩
  cases en : tyName d with
  | none => simp only [en] at qa; exact qa.elim
  | some n =>
    simp only [en] at qa
    exact ⟨v, n, rfl, ty_in i1 en, n, T, rfl, rfl, _, rfl, qa H1 k1 o1⟩
/-- the same as a value -/
def eTy (neg : Bool) (T : String) (f : FE) : FE := fun env => (f env).bind fun d => match tyName d with
  | some n => .ret (.bool (if neg = true then !decide (n = T) else decide (n = T)))
  | none => .fail
theorem xe_isTy {T : String} {f : FE} (h : PE X e (tOp (fun x y H Q => ∃ a b, x = .ty a ∧ y = .ty b ∧ Q (.bl (decide (a = b))) H) (tCB (rTyp X.K) (tCons (tX X.K .b f) tNil)) (tC (.ty T)))) : XE X .v e (eTy false T f) := weak h fun σ H Q ⟨ω, N, E, b, env, r, q⟩ => by
  refine ⟨ω, N, E, b, env, r, Tr.All_mono ((Tr.All_bind _ _ _ _).mp q) fun d c qa v H1 k1 o1 i1 => ?_⟩
  cases en : tyName d with
  | none => simp only [en] at qa; exact qa.elim
  | some n =>
    simp only [en] at qa
    exact ⟨v, n, rfl, ty_in i1 en, n, T, rfl, rfl, qa _ H1 k1 o1 (.bl _)⟩
/-! ### the truth of a thing -/
def truD : D → Option Bool
  | .none => some false
  | .bool b => some b
  | .int i => some (i != 0)
  | .list ds => some (!ds.isEmpty)
  | .tuple ds => some (!ds.isEmpty)
  | _ => none
def fTru (f : FE) : FT := fun env => (f env).bind fun d => match truD d with
  | some k => .ret k
  | none => .fail
theorem empty_in {K : PySem.W.Frag} {N : Addr → Prop} {H : Hp} {vs : List V} {ds : List D} (h : InAll K N H vs ds) : vs.isEmpty = ds.isEmpty := by
  cases h <;> rfl
theorem xt_tru {f : FE} (h : PT X e (fun σ H Q => tX X.K .b f σ H fun x H' => ∃ k, TruV X.K x H' k ∧ Q k H')) : XT X e (fTru f) := weakT h fun σ H Q ⟨ω, N, E, b, env, r, q⟩ => by
  refine ⟨ω, N, E, b, env, r, Tr.All_mono ((Tr.All_bind _ _ _ _).mp q) fun d c qa v H1 k1 o1 i1 => ?_⟩
  have i1 : InB X.K ω N H1 v d := i1
  cases en : truD d with
  | none => simp only [en] at qa; exact qa.elim
  | some n =>
    simp only [en] at qa
    refine ⟨n, ?_, qa H1 k1 o1⟩
    cases d with
    | none => cases en; cases i1.none; exact rfl
    | bool b => cases en; cases i1.bool; exact rfl
    | int i => cases en; cases i1.int; exact rfl
    | str x => cases en
    | list ds => cases en; obtain ⟨a, xs, rfl, ha, h1⟩ := i1.list; exact .inl ⟨xs, .inl (.inl ha), by rw [empty_in h1]⟩
    | tuple ds => cases en; obtain ⟨a, xs, rfl, ha, h1⟩ := i1.tuple; exact .inr (.inl ⟨xs, ha, by rw [empty_in h1]⟩)
    | dict es => cases en
/-! ### -x -/
def dNeg : D → Option D
  | .int i => some (.int (-i))
  | _ => none
def eNeg (f : FE) : FE := fun env => (f env).bind fun d => Tr.ofOpt (dNeg d)
theorem xe_neg {f : FE} (h : PE X e (tUn (rU fun i => .int (-i)) (tX X.K .b f))) : XE X .v e (eNeg f) := weak h fun σ H Q ⟨ω, N, E, b, env, r, q⟩ => by
  refine ⟨ω, N, E, b, env, r, Tr.All_mono ((Tr.All_bind _ _ _ _).mp q) fun d c qa v H1 k1 o1 i1 => ?_⟩
  have i1 : InB X.K ω N H1 v d := i1
  cases d with
  | int i => cases i1.int; exact ⟨i, rfl, qa _ H1 k1 o1 (.int _)⟩
  | _ => exact qa.elim
/-! ### xs.index(y), flat things -/
def dIdx (ds : List D) (y : D) : Option D := if flatD y = true ∧ ds.all flatD = true then (if memD y ds = true then some (.int ((ds.findIdx fun z => PyData.eqv z y : Nat))) else none) else none
end
/-! ### list(range(..)), tuple(range(..)) -/
section
variable {X : Cx} {e : Expr} {pos : Pos}
def rgBig (lo : Int) (n : Nat) : Bool := decide (n ≤ 16777216)
def eRgL (r : FL) : FE := fun env => (r env).bind fun ds => match rngOf ds with
  | some (lo, n) => if n ≤ 16777216 then .ret (.list (rngD lo n)) else .fail
  | none => .fail
def eRgT (r : FL) : FE := fun env => (r env).bind fun ds => match rngOf ds with
  | some (lo, n) => if n ≤ 16777216 then .ret (.tuple (rngD lo n)) else .fail
  | none => .fail
theorem rgV_in {K : PySem.W.Frag} {N : Addr → Prop} {H : Hp} (a b : Int) : InAll K N H (rgV a b) (rngD a (b - a).toNat) := by
  unfold rgV rngD
  generalize (b - a).toNat = n
  induction n with
  | zero => exact .nil
  | succ n ih =>
    rw [List.range_succ, List.map_append, List.map_append]
    exact ih.append (.cons (.int _) .nil)
end
end DL
end
section
set_option linter.all false
set_option maxRecDepth 100000
namespace DL
open PySem PySem.Spec PyProof.Rows L2
/-! ### one rule for each sign, whatever stands there -/
def dAddA (x y : D) : Option D := match dAdd x y with
  | some d => some d
  | none => dCat x y
theorem o_addA {X : Cx} : OpR X (binaryOp .Add) (rD2 X.K dAddA .v) := by
  intro pins s σ H x y v u Q I rx ry ⟨ω, N, d, e, z, om, dom, hx, hy, hg, k⟩
  unfold dAddA at hg
  cases q : dAdd d e with
  | some d' =>
    rw [q] at hg
    cases hg
    exact o_add pins s σ H x y v u Q I rx ry ⟨ω, N, d, e, _, om, dom, hx, hy, q, k⟩
  | none =>
    rw [q] at hg
    exact o_cat pins s σ H x y v u Q I rx ry ⟨ω, N, d, e, z, om, dom, hx, hy, hg, fun v' H' s' h => k v' H' s' (h.ov dom)⟩
def dSlA (lo hi : Option Int) (d : D) : Option D := match d with
  | .list ds => some (.list (cutD ds lo hi))
  | .tuple ds => some (.tuple (cutD ds lo hi))
  | _ => none
theorem x_slA {X : Cx} : SlR X (rDsl X.K dSlA .v) := by
  intro pins s σ H x v vl vu lo hi sl Q I rx hs pl pu ⟨ω, N, d, z, om, dom, hx, hg, k⟩
  cases d <;> first | (cases hg; done) | skip
  · cases hg
    exact x_slL pins s σ H x v vl vu lo hi sl Q I rx hs pl pu ⟨ω, N, _, _, om, dom, hx, rfl, fun v' H' s' h => k v' H' s' (h.ov dom)⟩
  · cases hg
    exact x_slT pins s σ H x v vl vu lo hi sl Q I rx hs pl pu ⟨ω, N, _, _, om, dom, hx, rfl, k⟩
section
variable {X : Cx} {e : Expr}
def eCompS (f : FE) (tgt : FG) (t : FT) (fe : FE) (vs : List Nat) : FE := fun env => (f env).bind fun d => match itemsOf d with
  | some ds => endComp tgt t fe (wipeE env vs) ds
  | none => .fail
theorem rd_compS {f fe : FE} {g : TG} {tgt : FG} {tt : TT} {ft : FT} {vs : List Nat} (hg : OwnTg X.K g tgt vs) (htt : ∀ σ H Q, tY X.K ft σ H Q → tt σ H Q) : ∀ σ H Q, tX X.K .o (eCompS f tgt ft fe vs) σ H Q → ((tLc (iSeq X.K (tX X.K .b f)) g tt (tX X.K .v fe) vs)) σ H Q :=
  fun σ H Q ⟨ω, N, E, b, env, r, q⟩ => by
  refine ⟨ω, N, E, b, env, r, Tr.All_mono ((Tr.All_bind _ _ _ _).mp q) fun d c qa v H1 k1 o1 i1 => ?_⟩
  have i1 : InB X.K ω N H1 v d := i1
  cases d with
  | list ds =>
    obtain ⟨a, xs, rfl, ha, h1, no⟩ := InB.list2 i1 r.om
    refine ⟨a, rfl, .inl ⟨xs, .inl (.inl ha), comp_core (r.move k1 o1) k1 (fun i H2 N' k2 p2 hi => ?_) (fun H2 k2 => ?_) hg htt qa⟩⟩
    · have ha2 : H2 a = some (.lst xs) := k2 _ _ ha no
      have hx : i < xs.length := by rw [h1.length]; exact hi
      refine ⟨⟨xs, xs[i], .inl (.inl ha2), List.getElem?_eq_getElem hx⟩, fun x H' ⟨eH, hy⟩ => ⟨eH, ?_⟩⟩
      obtain ⟨d, ed, hd⟩ := (all_pres p2 h1).get (hy _ (.inl (.inl ha2)))
      exact ⟨d, ed, hd⟩
    · exact ⟨xs, .inl (.inl (k2 _ _ ha no)), Nat.le_of_eq h1.length⟩
  | tuple ds =>
    have i2 : In X.K N H1 v (.tuple ds) := by
      rcases i1 with i1 | ⟨_, _, _, i1⟩
      · exact i1
      · exact i1.elim
    obtain ⟨a, xs, rfl, h1, hT⟩ := seqT_keep (H2 := H1) i2 r.om
    refine ⟨a, rfl, .inr ⟨xs, hT _ Keep.refl, comp_core (r.move k1 o1) k1 (fun i H2 N' k2 p2 hi => ?_) (fun H2 k2 => ?_) hg htt qa⟩⟩
    · have hx : i < xs.length := by rw [h1.length]; exact hi
      refine ⟨⟨xs, xs[i], hT _ k2, List.getElem?_eq_getElem hx⟩, fun x H' ⟨eH, hy⟩ => ⟨eH, ?_⟩⟩
      obtain ⟨d, ed, hd⟩ := (all_pres p2 h1).get (hy _ (hT _ k2))
      exact ⟨d, ed, hd⟩
    · exact ⟨xs, hT _ k2, Nat.le_of_eq h1.length⟩
  | dict es =>
    cases hI : itemsOf (.dict es) with
    | none => rw [hI] at qa; exact qa.elim
    | some ds =>
      rw [hI] at qa
      rw [items_dict hI] at i1
      have i2 : In X.K N H1 v (scrD ds) := by
        rcases i1 with i1 | ⟨a, e, n, kvs, ea, i1⟩
        · exact i1
        · exact absurd rfl (InKV.key i1 _ (List.mem_cons_self ..))
      obtain ⟨a, xs, rfl, hs, h1⟩ := i2.scr_inv
      have hk : ∀ H2, Keep ω H1 H2 → SqL X.K H2 a xs := fun H2 k2 => (hs.mono (N' := N) (fun _ z => .inl z) fun x o e n => k2 x o e fun z => n (r.om x z)).seq
      refine ⟨a, rfl, .inl ⟨xs, hs.seq, comp_core (r.move k1 o1) k1 (fun i H2 N' k2 p2 hi => ?_) (fun H2 k2 => ?_) hg htt qa⟩⟩
      · have hx : i < xs.length := by rw [h1.length]; exact hi
        refine ⟨⟨xs, xs[i], hk _ k2, List.getElem?_eq_getElem hx⟩, fun x H' ⟨eH, hy⟩ => ⟨eH, ?_⟩⟩
        obtain ⟨d, ed, hd⟩ := (all_pres p2 h1).get (hy _ (hk _ k2))
        exact ⟨d, ed, hd⟩
      · exact ⟨xs, hk _ k2, Nat.le_of_eq h1.length⟩
  | _ => exact qa.elim
/-! ### list(range(..)), tuple(range(..)) -/
theorem xe_compS {f fe : FE} {g : TG} {tgt : FG} {tt : TT} {ft : FT} {vs : List Nat} (hg : OwnTg X.K g tgt vs) (htt : ∀ σ H Q, tY X.K ft σ H Q → tt σ H Q) (h : PE X e ((tLc (iSeq X.K (tX X.K .b f)) g tt (tX X.K .v fe) vs))) : XE X .o e (eCompS f tgt ft fe vs) := weak h (rd_compS hg htt)
theorem xe_rgL1 {f : FE} (h : PE X e (tLstRg (tRg1 (tX X.K .b f)))) : XE X .o e (eRgL (lCons f lNil)) := weak h fun σ H Q ⟨ω, N, E, b, env, r, q⟩ => by
  refine ⟨ω, N, E, b, env, r, Tr.All_mono ((Tr.All_bind _ _ _ _).mp ((Tr.All_bind _ _ _ _).mp q)) fun d c qa v H1 k1 o1 i1 => ?_⟩
  have i1 : InB X.K ω N H1 v d := i1
  cases d with
  | int n =>
    cases i1.int
    have qa : (match rngOf [.int n] with | some (lo, n) => if n ≤ 16777216 then .ret (.list (rngD lo n)) else .fail | none => .fail : Tr D).All c fun d c => ∀ v H', Keep ω H H' → OrcO ω c H' → RK X.K ω N H H' .o v d → Q v H' := qa
    by_cases hz : ok62 n = true
    · simp only [rngOf, if_pos hz] at qa
      have hz' := of_decide_eq_true hz
      by_cases hn : n.toNat ≤ 16777216
      · rw [if_pos hn] at qa
        refine ⟨n, rfl, ⟨by decide, by decide, hz'.1, hz'.2, by rw [Int.sub_zero]; exact hn⟩, fun p hp => qa _ _ (k1.trans (Keep.of (same_new hp))) (o1.same (same_new hp)) ?_⟩
        have hi : InAll X.K N H1 (rgV 0 n) (rngD 0 n.toNat) := by
          have q := rgV_in (K := X.K) (N := N) (H := H1) 0 n
          rwa [Int.sub_zero] at q
        exact RK.back (ω := ω) k1 o1 (RK.newLst hi hp)
      · rw [if_neg hn] at qa
        exact qa.elim
    · simp only [rngOf, if_neg hz] at qa
      exact qa.elim
  | _ => exact qa.elim
def tTupRgF (te : L2.St → Hp → (Int → Int → Hp → Prop) → Prop) : TE := fun σ H Q => te σ H fun a b H1 => RgOk a b ∧ QT Q H1 (rgV a b)
theorem pe_tupRgF {a : Expr} {te : L2.St → Hp → (Int → Int → Hp → Prop) → Prop} {p pos : Pos} (hc : X.calm = true) (hg : Gl X "tuple") (hm : X.mg "tuple" = none) (he : PRg X a te) (na : starEach [a] X.env = (false, eval a X.env) :: starEach [] X.env := by rfl) : PE X (.Call (.Name "tuple" p) [a] [] pos) (tTupRgF te) := by
  refine ⟨fun pins s σ H Q I h => Call_ (ld_blt I hg hm boot_tuple (PyProof.Rows.callWith_type1 (args_cons (thn (he pins s σ H _ I h) fun x s1 ⟨r, lo, hi, t, u, v, H1, ex, hr, I1, ok, q⟩ => args_nil ?_) na) na))⟩
  subst ex
  obtain ⟨c1, c2, c3, c4, c5⟩ := ok
  refine call_tuple_range (n := (hi - lo).toNat) (I1.ok.hd hc) hr (small_one c1 c2 c3 c4) (rangeSize_nat lo hi) c5 fun h' tk acc hk hi2 => ?_
  have I2 : Inv X pins σ H1 { s1 with heap := h', toks := tk } := I1.kept hk
  have z : (rgV lo hi).length ≤ sizeLine := by rw [rgV_length, sizeLine_eq]; omega
  have r2 := vals_rg hi2
  have g := q.at I2 r2 z
  rw [Array.toArray_toList] at g
  exact g
theorem xe_rgT1 {f : FE} (h : PE X e (tTupRgF (tRg1 (tX X.K .b f)))) : XE X .v e (eRgT (lCons f lNil)) := weak h fun σ H Q ⟨ω, N, E, b, env, r, q⟩ => by
  refine ⟨ω, N, E, b, env, r, Tr.All_mono ((Tr.All_bind _ _ _ _).mp ((Tr.All_bind _ _ _ _).mp q)) fun d c qa v H1 k1 o1 i1 => ?_⟩
  have i1 : InB X.K ω N H1 v d := i1
  cases d with
  | int n =>
    cases i1.int
    have qa : (match rngOf [.int n] with | some (lo, n) => if n ≤ 16777216 then .ret (.tuple (rngD lo n)) else .fail | none => .fail : Tr D).All c fun d c => ∀ v H', Keep ω H H' → OrcO ω c H' → RK X.K ω N H H' .v v d → Q v H' := qa
    by_cases hz : ok62 n = true
    · simp only [rngOf, if_pos hz] at qa
      have hz' := of_decide_eq_true hz
      by_cases hn : n.toNat ≤ 16777216
      · rw [if_pos hn] at qa
        refine ⟨n, rfl, ⟨by decide, by decide, hz'.1, hz'.2, by rw [Int.sub_zero]; exact hn⟩, fun p o hp od => qa _ _ (k1.trans (Keep.of (same_new hp))) (o1.same (same_new hp)) ?_⟩
        have hi : InAll X.K N H1 (rgV 0 n) (rngD 0 n.toNat) := by
          have q := rgV_in (K := X.K) (N := N) (H := H1) 0 n
          rwa [Int.sub_zero] at q
        exact In.newTup hi hp (r.move k1 o1).dom od
      · rw [if_neg hn] at qa
        exact qa.elim
    · simp only [rngOf, if_neg hz] at qa
      exact qa.elim
  | _ => exact qa.elim
/-! ### xs.index(y), flat things -/
def eIdx (f fy : FE) : FE := fun env => (f env).bind fun d => match d with
  | .list ds => (fy env).bind fun y => Tr.ofOpt (dIdx ds y)
  | _ => .fail
theorem xe_idx {f fy : FE} (h : PE X e (tBM X.K "list" (rIndex X.K) (tX X.K .b f) (tCons (tX X.K .b fy) tNil))) : XE X .v e (eIdx f fy) := weak h fun σ H Q ⟨ω, N, E, b, env, r, q⟩ => by
  refine ⟨ω, N, E, b, env, r, Tr.All_mono ((Tr.All_bind _ _ _ _).mp q) fun d c qa v H1 k1 o1 i1 => ?_⟩
  have i1 : InB X.K ω N H1 v d := i1
  cases d with
  | list ds =>
    obtain ⟨a, xs, rfl, ha, h1, no⟩ := InB.list2 i1 r.om
    refine ⟨.inl ⟨rfl, xs, .inl (.inl ha)⟩, ω, N, E, c, env, r.move k1 o1, Tr.All_mono ((Tr.All_bind _ _ _ _).mp qa) fun y c2 qb u H2 k2 o2 i2 => ?_⟩
    have i2 : InB X.K ω N H2 u y := i2
    have h2 : InAll X.K N H2 xs ds := h1.keep r.om k2
    have ha2 := k2 _ _ ha no
    unfold dIdx at qb
    split at qb
    · rename_i hf
      split at qb
      · rename_i hm
        have iy := i2.flat hf.1
        obtain ⟨d0, hd0, he0⟩ : ∃ z ∈ ds, PyData.eqv z y = true := by
          unfold memD at hm
          exact List.any_eq_true.mp hm
        have hlt : (ds.findIdx fun z => PyData.eqv z y) < ds.length := List.findIdx_lt_length_of_exists ⟨d0, hd0, he0⟩
        obtain ⟨w, hw, iw⟩ := h2.get' (List.getElem?_eq_getElem hlt)
        have fl : ∀ (m : Nat) (hm : m < ds.length), flatD ds[m] = true := fun m hm => List.all_eq_true.mp hf.2 _ (List.getElem_mem hm)
        refine ⟨a, xs, u, _, w, rfl, rfl, .inl (.inl ha2), flat_in iy hf.1, flats_in h2 hf.2, hw, ?_, fun m z' hm hz => ?_, qb _ H2 (k1.trans k2) o2 (.int _)⟩
        · rw [eqV_in iw iy (fl _ hlt) hf.1]
          exact List.findIdx_getElem (w := hlt)
        · have hm2 : m < ds.length := Nat.lt_trans hm hlt
          obtain ⟨d1, e1, i3⟩ := h2.get hz
          rw [List.getElem?_eq_getElem hm2] at e1
          cases e1
          rw [eqV_in i3 iy (fl _ hm2) hf.1]
          exact List.not_of_lt_findIdx hm
      · exact qb.elim
    · exact qb.elim
  | _ => exact qa.elim
end
end DL
end
section
set_option linter.all false
set_option maxRecDepth 100000
namespace DL
open PySem PySem.Spec PyProof.Rows L2
section
variable {X : Cx} {k : Kd} {st : Stmt} {e : Expr} {pos : Pos}
theorem xs_setLc {i : Nat} {t : TE} {f : FE} (h : PS X st (tAsg t (gName i))) (hk : ∀ σ H Q, tX X.K .o f σ H Q → t σ H Q) : XS X k st (sSetO i f) := weakS h fun D σ H ⟨ω, N0, N, E, b, env, r, n0, e0, q⟩ => by
  refine hk _ _ _ ⟨ω, N, E, b, env, r, Tr.All_mono ((Tr.All_bind _ _ _ _).mp q) fun d c qa v H1 k1 o1 i1 => ?_⟩
  obtain ⟨p, rfl, hp, i1⟩ := i1
  refine qa (addN N p) H1 _ (r.own k1 o1 hp i1) (fun x z => .inl (n0 x z)) fun v d h => ?_
  exact h.mono (fun x z => z.elim .inl fun e => .inr (by rw [e]; exact hp)) fun x o e n => k1 x o e fun z => n (r.om x z)
theorem xs_setLcV {i : Nat} {t : TE} {f : FE} (h : PS X st (tAsg t (gName i))) (hk : ∀ σ H Q, tX X.K .v f σ H Q → t σ H Q) : XS X k st (sSet i f) := weakS h fun D σ H ⟨ω, N0, N, E, b, env, r, n0, e0, q⟩ => by
  refine hk _ _ _ ⟨ω, N, E, b, env, r, Tr.All_mono ((Tr.All_bind _ _ _ _).mp q) fun d c qa v H1 k1 o1 i1 => ?_⟩
  exact qa N H1 _ ((r.move k1 o1).setV i1) n0 (Pres.keep r.om k1)
/-- what each comprehension rule asks -/
theorem xt_din {i : Nat} {fk : FE} (h : PT X e (L2.tB (tDIn (tX X.K .b fk) (tVar i)))) : XT X e (tt (eDIn false i fk)) := weakTB h fun σ H Q ⟨ω, N, E, b, env, r, q⟩ => by
  unfold eDIn at q
  split at q
  · rename_i es hi
    obtain ⟨a, hs, na, no, ea, hd⟩ := own_dict (H1 := H) r hi
    refine ⟨ω, N, E, b, env, r, Tr.All_mono ((Tr.All_bind _ _ _ _).mp q) fun y c qa v H1 k1 o1 i1 => ?_⟩
    cases ek : keyOf y with
    | none => simp only [ek] at qa; exact qa.elim
    | some kk =>
      simp only [ek] at qa
      obtain ⟨kvs, e1, h1⟩ := hd H1 k1
      have ev := key_val i1 ek
      subst ev
      refine ⟨_, hs, a, valV kvs kk, rfl, DGet.k e1, qa _ H1 k1 o1 ?_⟩
      rcases h1.get (k := kk) with ⟨z1, z2⟩ | ⟨w, d, z1, z2, _⟩
      · rw [z1, z2]; exact .bl _
      · rw [z1, z2]; exact .bl _
  · exact q.elim
theorem xt_dnotin {i : Nat} {fk : FE} (h : PT X e (L2.tB (tDNotIn (tX X.K .b fk) (tVar i)))) : XT X e (tt (eDIn true i fk)) := weakTB h fun σ H Q ⟨ω, N, E, b, env, r, q⟩ => by
  unfold eDIn at q
  split at q
  · rename_i es hi
    obtain ⟨a, hs, na, no, ea, hd⟩ := own_dict (H1 := H) r hi
    refine ⟨ω, N, E, b, env, r, Tr.All_mono ((Tr.All_bind _ _ _ _).mp q) fun y c qa v H1 k1 o1 i1 => ?_⟩
    cases ek : keyOf y with
    | none => simp only [ek] at qa; exact qa.elim
    | some kk =>
      simp only [ek] at qa
      obtain ⟨kvs, e1, h1⟩ := hd H1 k1
      have ev := key_val i1 ek
      subst ev
      refine ⟨_, hs, a, valV kvs kk, rfl, DGet.k e1, qa _ H1 k1 o1 ?_⟩
      rcases h1.get (k := kk) with ⟨z1, z2⟩ | ⟨w, d, z1, z2, _⟩
      · rw [z1, z2]; exact .bl _
      · rw [z1, z2]; exact .bl _
  · exact q.elim
end
end DL
end
section
set_option linter.all false
set_option maxRecDepth 100000
namespace HT
open PySem PySem.Spec PyProof.Rows L2
section
variable {prog : Program} {w : World} {A : Around} {E : Value → Shared → Prop} {s : Shared}
theorem fm_some {α β : Type} (f : α → Option β) (g : α → β) : ∀ l : List α, (∀ k ∈ l, f k = some (g k)) → l.filterMap f = l.map g
  | [], _ => rfl
  | a :: l, h => by
    rw [List.filterMap_cons, h a (List.mem_cons_self ..), List.map_cons, fm_some f g l fun k hKk => h k (List.mem_cons_of_mem _ hKk)]
theorem rev_pick (xs : Array Value) : ((List.range xs.size).filterMap fun (k : Nat) => xs[(((xs.size : Int) - 1) + (k : Int) * (-1)).toNat]?).toArray = xs.toList.reverse.toArray := by
  congr 1
  rw [fm_some _ (fun k => xs.getD (xs.size - 1 - k) .none)]
  · apply List.ext_getElem?
    intro i
    by_cases hIi : i < xs.size
    · have hlt : xs.size - 1 - i < xs.size := by omega
      rw [List.getElem?_map, List.getElem?_range hIi, List.getElem?_reverse (by simpa using hIi)]
      simp [Array.getD, hlt]
    · rw [List.getElem?_eq_none (by simpa using hIi), List.getElem?_eq_none (by simpa using hIi)]
  · intro k hKk
    have hk' : k < xs.size := List.mem_range.mp hKk
    have eQ1 : (((xs.size : Int) - 1) + (k : Int) * (-1)).toNat = xs.size - 1 - k := by omega
    have hlt : xs.size - 1 - k < xs.size := by omega
    rw [eQ1, Array.getElem?_eq_getElem hlt]
    simp [Array.getD, hlt]
theorem adjust_rev (n : Nat) : Builtin.Slice.sliceAdjust none none (-1) (n : Int) = ((n : Int) - 1, -1) := by
  unfold Builtin.Slice.sliceAdjust
  simp
theorem places_rev (n : Nat) : Builtin.Slice.slicePlaces ((n : Int) - 1) (-1) (-1) = n := by
  unfold Builtin.Slice.slicePlaces
  have h1 : ¬ ((-1 : Int) > 0) := by omega
  simp only [h1, if_false]
  have h2 : -(-1 : Int) = 1 := rfl
  rw [h2, Int.ediv_one]
  split <;> omega
theorem slicePart_2 {v : Value} {o : Option Int} {Q : Option Int → Shared → Prop} (p : IsPart v o) (h : Q o s) : wpAny (model prog w) A (Builtin.Slice.slicePartIndex v) Q E s := slicePart_ p h
theorem sliceApplied_rev {sl : Addr} {vl vu vs : Value} {n : Nat} {Q : Int × Int × Nat → Shared → Prop} (hs : s.heap.IsSliceOf sl vl vu vs) (pl : IsPart vl none) (pu : IsPart vu none) (ps : IsPart vs (some (-1)))
    (h : Q ((n : Int) - 1, -1, n) s) : wpAny (model prog w) A (Builtin.Slice.sliceApplied (.ref sl) (pure (n : Int))) Q E s := by
  obtain ⟨os, hOs, hCs, hDs⟩ := id hs
  unfold Builtin.Slice.sliceApplied Builtin.Slice.sliceFields
  refine wpAny_bind (wpAny_bind (wpAny_field hOs hDs (x := vl) rfl (wpAny_bind (wpAny_field hOs hDs (x := vu) rfl (wpAny_bind (wpAny_field hOs hDs (x := vs) rfl (wpAny_pure ?_)))))))
  refine wpAny_bind (slicePart_ ps ?_)
  show wpAny _ _ (if ((-1 : Int) == 0) = true then _ else _) _ _ s
  rw [if_neg (by decide)]
  refine wpAny_bind (slicePart_ pl (wpAny_bind (slicePart_ pu (wpAny_bind (wpAny_pure ?_)))))
  show wpAny _ _ (match Builtin.Slice.sliceAdjust none none (-1) (n : Int) with | (lo, hIi) => pure (lo, (-1 : Int), Builtin.Slice.slicePlaces lo hIi (-1))) _ _ s
  rw [adjust_rev n]
  show wpAny _ _ (pure ((n : Int) - 1, (-1 : Int), Builtin.Slice.slicePlaces ((n : Int) - 1) (-1) (-1))) _ _ s
  rw [places_rev]
  exact wpAny_pure h
theorem getItem_tuple_rev {t sl : Addr} {items : Array Value} {vl vu vs : Value} {Q : Value → Shared → Prop} (ht : IsTup s.heap t items) (hs : s.heap.IsSliceOf sl vl vu vs) (pl : IsPart vl none) (pu : IsPart vu none) (ps : IsPart vs (some (-1)))
    (h : Q (.ref s.heap.objs.size) { s with heap := s.heap.push { cls := .type "tuple", data := .seq items.toList.reverse.toArray } })
    (hSz : items.size ≤ sizeLine) : wpAny (model prog w) A (getItem (.ref t) (.ref sl)) Q E s := by
  have hTake : sizeOk (.seq items.toList.reverse.toArray) := by
    show items.toList.reverse.toArray.size ≤ sizeLine
    simpa using hSz
  obtain ⟨os, hOs, hCs, hDs⟩ := id hs
  have hTys : s.TypeIs (.ref sl) "slice" := ⟨os, hOs, hCs⟩
  unfold getItem
  try with_reducible refine wpAny_holding ?_
  first | refine wpAny_bind (wpAny_pure ?_) | skip
  refine wpAny_bind (wpAny_sequenceKey ht.typeIs (by decide) ?_)
  refine wpAny_bind (wpAny_callSpecial?_slot (name := Str.ofString "__getitem__") ht.typeIs PyProof.Rows.slot_tuple_getitem
    (wpAny_call_entry PyProof.Rows.slot_tuple_getitem ht.typeIs entry_tuple_getitem ?_ (args_tuple_getitem _ _)))
  show wpAny _ _ (Builtin.Tuple.tupleItemsOf (.ref t) >>= _) _ _ s
  refine wpAny_bind (tupleItemsOf_ ht ?_)
  refine wpAny_bind (wpAny_typeOf hTys ?_)
  rw [if_pos (by decide)]
  refine wpAny_bind (sliceApplied_rev hs pl pu ps ?_)
  have hNo : ¬ ((((items.size : Int) - 1) == 0 && (-1 : Int) == 1 && items.size == items.size) = true) := by
    intro q
    rw [Bool.and_eq_true, Bool.and_eq_true] at q
    exact absurd q.1.2 (by decide)
  show wpAny _ _ (if (((items.size : Int) - 1) == 0 && (-1 : Int) == 1 && items.size == items.size) = true then _ else _) _ _ s
  rw [if_neg hNo, rev_pick]
  first
    | exact wpAny_bind (m := Builtin.Tuple.tupleExact _) (wpAny_newObj_type (wpAny_pure ⟨_, rfl, wpAny_pure h⟩) hTake)
    | exact wpAny_bind (m := Builtin.Tuple.tupleExact _) (wpAny_newObj_type (wpAny_bind (wpAny_pure (wpAny_pure ⟨_, rfl, wpAny_pure h⟩))) hTake)
    | exact wpAny_bind (wpAny_bind (m := Builtin.Tuple.tupleExact _) (wpAny_newObj_type (wpAny_pure (wpAny_pure ⟨_, rfl, wpAny_pure h⟩)) hTake))
    | exact wpAny_bind (wpAny_bind (m := Builtin.Tuple.tupleExact _) (wpAny_newObj_type (wpAny_pure ⟨_, rfl, wpAny_pure h⟩) hTake))
end
end HT
end
section
set_option linter.all false
set_option maxRecDepth 100000
namespace DL
open PySem PySem.Spec PyProof.Rows L2
theorem readOV {K : PySem.W.Frag} {f : FE} {σ : L2.St} {H : Hp} {Q : VK} (h : tX K .v f σ H Q) : tX K .o f σ H Q := by
  obtain ⟨ω, N, E, b, env, r, q⟩ := h
  exact ⟨ω, N, E, b, env, r, Tr.All_mono q fun d c qa v HA k1 o1 i1 => qa v HA k1 o1 (RK.ov i1 r.dom)⟩
/-! ### a global name that stands for written data -/
def Glob (K : PySem.W.Frag) (mg : Str → Option Value) (x : Str) (d : D) : Prop := ∃ v u, mg x = some u ∧ RelV v u ∧ ∀ N H, In K N H v d
theorem xe_globD {X : Cx} {x : Str} {pos : Pos} {d : D} (hGg : Gl X x) (h : Glob X.K X.mg x d) (hdb : (x == ("__debug__" : Str)) = false := by decide) : XE X .v (.Name x pos) (eC d) := by
  obtain ⟨v, u, hMm, r, hDd⟩ := h
  exact xe_glob hGg hMm r hDd hdb
/-! ### x[::-1], x a list or a tuple -/
def tRevA (K : PySem.W.Frag) (te : TE) : TE := fun σ H Q => te σ H fun x HA => ∃ a xs, x = .ref a ∧ ((SqL K HA a xs ∧ ∀ p, HA p = none → Q (.ref p) (upd HA p (.lst xs.reverse))) ∨ (SqT K HA a xs ∧ QT Q HA xs.reverse))
theorem pe_revA {X : Cx} {e : Expr} {te : TE} {k : Nat} {p1 p2 p3 pos : Pos} (he : PE X e te) : PE X (.Subscript e (.Slice none none (some (.UnaryOp .USub (.Constant (.int 1) k p1) p2)) p3) pos) (tRevA X.K te) := by
  refine ⟨fun pnz s σ H Q I h => ?_⟩
  refine Subscript_ (thn (he.run pnz s σ H _ I h) fun v sA ⟨x, HA, IA, rA, qA⟩ => ?_)
  obtain ⟨a, xs, ex, hXx⟩ := qA
  subst ex
  cases rA
  have hSt : PO X (some (.UnaryOp .USub (.Constant (.int 1) k p1) p2)) (tPart (tUn (rU fun i => .int (-i)) (tC (.int 1)))) := po_some (pe_un un_neg pe_int)
  refine wpAny_Slice (thn (po_none.run pnz sA σ HA (fun o HB => o = none ∧ HB = HA) IA ⟨rfl, rfl⟩) fun vl sB ⟨l, HB, IB, pl, el, e2⟩ => ?_)
  subst el e2
  refine thn (po_none.run pnz sB σ HB (fun o H3 => o = none ∧ H3 = HB) IB ⟨rfl, rfl⟩) fun vu sC ⟨u, H3, IC, pu, eu, e3⟩ => ?_
  subst eu e3
  refine thn (hSt.run pnz sC σ H3 (fun o H4 => o = some (-1) ∧ H4 = H3) IC ⟨1, rfl, -1, rfl, rfl, rfl⟩) fun vs sD ⟨o, H4, ID, ps, eo, e4⟩ => ?_
  subst eo e4
  have IE : Inv X pnz σ H4 { sD with heap := sD.heap.push { cls := .type "slice", data := .fields #[vl, vu, vs] } } := ID.kept (t' := sD.toks) fun b ob q => Heap.get?_push_of_some _ q
  rcases hXx with ⟨hXx, q⟩ | ⟨hXx, q⟩
  · obtain ⟨itz, r, ht, hZz⟩ := IE.list hXx
    have hLen := r.length
    show wpAny (model X.prog X.w) X.A (subscriptTail e (.Slice none none (some (.UnaryOp .USub (.Constant (.int 1) k p1) p2)) p3) (.ref a) (.ref sD.heap.objs.size)) (EP X pnz σ Q) X.xe { sD with heap := sD.heap.push { cls := .type "slice", data := .fields #[vl, vu, vs] } }
    refine tail_any (ops := [.ref a, .ref sD.heap.objs.size]) ht.isList.typeIs (PySem.slot_list_getitem.lookup) ?_ (by with_unfolding_all rfl)
    refine wpAny_getItem_list_slice ht.isList (Heap.IsSliceOf.new _ vl vu vs) pl pu ps (by decide) ?_ (by rw [List.size_toArray]; omega)
    rw [PySem.W.krv_pick]
    refine ⟨.ref _, _, IE.laid (t' := sD.toks) (o := .lst xs.reverse) (fun b ob q => Heap.get?_push_of_some _ q) (Nat.le_refl _) ?_, rfl, q _ (IE.hok.fresh (Nat.le_refl _))⟩
    exact ⟨by rw [List.length_reverse]; exact hZz, _, 0, r.reverse, Heap.get?_push_size _ rfl⟩
  · obtain ⟨itz, r, ht, hZz⟩ := IE.tuple hXx
    have hLen := r.length
    show wpAny (model X.prog X.w) X.A (subscriptTail e (.Slice none none (some (.UnaryOp .USub (.Constant (.int 1) k p1) p2)) p3) (.ref a) (.ref sD.heap.objs.size)) (EP X pnz σ Q) X.xe { sD with heap := sD.heap.push { cls := .type "slice", data := .fields #[vl, vu, vs] } }
    refine tail_any (ops := [.ref a, .ref sD.heap.objs.size]) ht.typeIs (PyProof.Rows.slot_tuple_getitem.lookup) ?_ (by with_unfolding_all rfl)
    refine HT.getItem_tuple_rev ht (Heap.IsSliceOf.new _ vl vu vs) pl pu ps ?_ (by rw [List.size_toArray]; omega)
    exact q.at IE r.reverse (by rw [List.length_reverse]; exact hZz)
def dRev : D → Option D
  | .list ds => some (.list ds.reverse)
  | .tuple ds => some (.tuple ds.reverse)
  | _ => none
def eRev (f : FE) : FE := fun env => (f env).bind fun d => Tr.ofOpt (dRev d)
theorem InAll.rev {K : PySem.W.Frag} {N : Addr → Prop} {H : Hp} : ∀ {vs : List V} {ds : List D}, InAll K N H vs ds → InAll K N H vs.reverse ds.reverse
  | _, _, .nil => .nil
  | _, _, .cons h t => by
    rw [List.reverse_cons, List.reverse_cons]
    exact t.rev.append (.cons h .nil)
theorem xe_rev {X : Cx} {e : Expr} {f : FE} (h : PE X e (tRevA X.K (tX X.K .b f))) : XE X .v e (eRev f) := weak h fun σ H Q ⟨ω, N, E, b, env, r, q⟩ => by
  refine ⟨ω, N, E, b, env, r, Tr.All_mono ((Tr.All_bind _ _ _ _).mp q) fun d c qa v HA k1 o1 i1 => ?_⟩
  have i1 : InB X.K ω N HA v d := i1
  have dom1 : ∀ x, N x → HA x ≠ none := (r.move k1 o1).dom
  cases d with
  | list ds =>
    obtain ⟨a, xs, rfl, ha, h1⟩ := i1.list
    refine ⟨a, xs, rfl, .inl ⟨.inl (.inl ha), fun p hPp => qa _ _ (k1.trans (Keep.of (same_new hPp))) (o1.same (same_new hPp)) ?_⟩⟩
    exact .lst (fun z => dom1 p z hPp) upd_same (h1.rev.mono (fun _ z => .inl z) fun x o e _ => by rw [upd_ne (ne_of_none e hPp)]; exact e)
  | tuple ds =>
    obtain ⟨a, xs, rfl, ha, h1⟩ := i1.tuple
    exact ⟨a, xs, rfl, .inr ⟨ha, fun p o hPp od => qa _ _ (k1.trans (Keep.of (same_new hPp))) (o1.same (same_new hPp)) (In.newTup h1.rev hPp dom1 od)⟩⟩
  | _ => exact qa.elim
end DL
end
section
set_option linter.all false
set_option maxRecDepth 100000
namespace DL
open PySem PySem.Spec PyProof.Rows L2
/-! ### max, min of one list or tuple of whole numbers; all -/
def boolOf : D → Option Bool
  | .bool b => some b
  | _ => none
def dBools : List D → Option (List Bool)
  | [] => some []
  | d :: ds => match boolOf d, dBools ds with
    | some b, some bs => some (b :: bs)
    | _, _ => none
def dNums : List D → Option (List Int)
  | [] => some []
  | d :: ds => match intOf d, dNums ds with
    | some b, some bs => some (b :: bs)
    | _, _ => none
def dAll : List D → Option D
  | [.list ds] => (dBools ds).map fun bs => .bool (bs.all id)
  | _ => none
def dAny : List D → Option D
  | [.list ds] => (dBools ds).map fun bs => .bool (bs.any id)
  | _ => none
def maxI : Int → List Int → Int
  | m, [] => m
  | m, x :: xs => maxI (if m < x then x else m) xs
def minI : Int → List Int → Int
  | m, [] => m
  | m, x :: xs => minI (if x < m then x else m) xs
def dMax1 : List D → Option D
  | [.list ds] => (dNums ds).bind fun ns => match ns with | [] => none | n :: ns => some (.int (maxI n ns))
  | [.tuple ds] => (dNums ds).bind fun ns => match ns with | [] => none | n :: ns => some (.int (maxI n ns))
  | _ => none
def dMin1 : List D → Option D
  | [.list ds] => (dNums ds).bind fun ns => match ns with | [] => none | n :: ns => some (.int (minI n ns))
  | [.tuple ds] => (dNums ds).bind fun ns => match ns with | [] => none | n :: ns => some (.int (minI n ns))
  | _ => none
theorem maxI_spec : ∀ (xs : List Int) (m : Int), (maxI m xs = m ∨ maxI m xs ∈ xs) ∧ m ≤ maxI m xs ∧ ∀ y ∈ xs, y ≤ maxI m xs
  | [], m => ⟨.inl rfl, Int.le_refl _, fun y h => nomatch h⟩
  | x :: xs, m => by
    obtain ⟨h1, h2, h3⟩ := maxI_spec xs (if m < x then x else m)
    show ((maxI (if m < x then x else m) xs = m ∨ _) ∧ _)
    have e : maxI m (x :: xs) = maxI (if m < x then x else m) xs := rfl
    by_cases hCc : m < x
    · rw [if_pos hCc] at h1 h2 h3 ⊢
      rw [e, if_pos hCc]
      refine ⟨.inr ?_, by omega, fun y hy => ?_⟩
      · rcases h1 with h1 | h1
        · rw [h1]; exact List.mem_cons_self ..
        · exact List.mem_cons_of_mem _ h1
      · rcases List.mem_cons.mp hy with rfl | hy
        · exact h2
        · exact h3 y hy
    · rw [if_neg hCc] at h1 h2 h3 ⊢
      rw [e, if_neg hCc]
      refine ⟨?_, h2, fun y hy => ?_⟩
      · rcases h1 with h1 | h1
        · exact .inl h1
        · exact .inr (List.mem_cons_of_mem _ h1)
      · rcases List.mem_cons.mp hy with rfl | hy
        · omega
        · exact h3 y hy
theorem minI_spec : ∀ (xs : List Int) (m : Int), (minI m xs = m ∨ minI m xs ∈ xs) ∧ minI m xs ≤ m ∧ ∀ y ∈ xs, minI m xs ≤ y
  | [], m => ⟨.inl rfl, Int.le_refl _, fun y h => nomatch h⟩
  | x :: xs, m => by
    obtain ⟨h1, h2, h3⟩ := minI_spec xs (if x < m then x else m)
    show ((minI (if x < m then x else m) xs = m ∨ _) ∧ _)
    have e : minI m (x :: xs) = minI (if x < m then x else m) xs := rfl
    by_cases hCc : x < m
    · rw [if_pos hCc] at h1 h2 h3 ⊢
      rw [e, if_pos hCc]
      refine ⟨.inr ?_, by omega, fun y hy => ?_⟩
      · rcases h1 with h1 | h1
        · rw [h1]; exact List.mem_cons_self ..
        · exact List.mem_cons_of_mem _ h1
      · rcases List.mem_cons.mp hy with rfl | hy
        · exact h2
        · exact h3 y hy
    · rw [if_neg hCc] at h1 h2 h3 ⊢
      rw [e, if_neg hCc]
      refine ⟨?_, h2, fun y hy => ?_⟩
      · rcases h1 with h1 | h1
        · exact .inl h1
        · exact .inr (List.mem_cons_of_mem _ h1)
      · rcases List.mem_cons.mp hy with rfl | hy
        · omega
        · exact h3 y hy
theorem max_uniq {n m : Int} {ns : List Int} (h : m ∈ n :: ns) (h2 : ∀ y, y ∈ n :: ns → y ≤ m) : m = maxI n ns := by
  obtain ⟨a, b, c⟩ := maxI_spec ns n
  have hMm : maxI n ns ∈ n :: ns := by
    rcases a with a | a
    · rw [a]; exact List.mem_cons_self ..
    · exact List.mem_cons_of_mem _ a
  have h3 := h2 _ hMm
  rcases List.mem_cons.mp h with rfl | h
  · omega
  · have := c m h; omega
theorem min_uniq {n m : Int} {ns : List Int} (h : m ∈ n :: ns) (h2 : ∀ y, y ∈ n :: ns → m ≤ y) : m = minI n ns := by
  obtain ⟨a, b, c⟩ := minI_spec ns n
  have hMm : minI n ns ∈ n :: ns := by
    rcases a with a | a
    · rw [a]; exact List.mem_cons_self ..
    · exact List.mem_cons_of_mem _ a
  have h3 := h2 _ hMm
  rcases List.mem_cons.mp h with rfl | h
  · omega
  · have := c m h; omega
section
variable {K : PySem.W.Frag} {N : Addr → Prop} {H : Hp}
theorem In.ofInt {v : V} {d : D} {n : Int} (h : In K N H v d) (e : intOf d = some n) : v = .int n := by
  cases d <;> first | (cases e; done) | skip
  cases e
  exact h.int_inv
theorem In.ofBool {v : V} {d : D} {n : Bool} (h : In K N H v d) (e : boolOf d = some n) : v = .bl n := by
  cases d <;> first | (cases e; done) | skip
  cases e
  exact h.bool_inv
theorem InAll.nums : ∀ {vs : List V} {ds : List D} {ns : List Int}, InAll K N H vs ds → dNums ds = some ns → vs = ns.map V.int
  | _, _, _, .nil, e => by cases e; rfl
  | _, _, ns, @InAll.cons _ _ _ v vs d ds h t, e => by
    unfold dNums at e
    split at e
    · rename_i b bs eQ1 e2
      cases e
      rw [h.ofInt eQ1, t.nums e2]
      rfl
    · cases e
theorem InAll.bools : ∀ {vs : List V} {ds : List D} {ns : List Bool}, InAll K N H vs ds → dBools ds = some ns → vs = ns.map V.bl
  | _, _, _, .nil, e => by cases e; rfl
  | _, _, ns, @InAll.cons _ _ _ v vs d ds h t, e => by
    unfold dBools at e
    split at e
    · rename_i b bs eQ1 e2
      cases e
      rw [h.ofBool eQ1, t.bools e2]
      rfl
    · cases e
end
section
variable {X : Cx}
theorem c_all (hCc : X.calm = true) : CallR X (.builtin "all") (rDn X.K dAll .v) := by
  intro pnz s σ H xs us Q I rx ⟨ω, N, ds, d, om, dom, hXx, hGg, k⟩
  match ds, hGg, hXx with
  | [.list es], hGg, hXx =>
    obtain ⟨v, rfl, h⟩ := InBs.one hXx
    obtain ⟨a, ys, rfl, ha, h1⟩ := h.list
    simp only [dAll] at hGg
    cases e : dBools es with
    | none => rw [e] at hGg; cases hGg
    | some bs =>
      rw [e] at hGg
      cases hGg
      have := h1.bools e
      subst this
      exact cr_all hCc pnz s σ H _ us Q I rx ⟨a, bs, rfl, .inl (.inl ha), k _ H (Same.refl H) (.bl _)⟩
theorem c_any (hCc : X.calm = true) : CallR X (.builtin "any") (rDn X.K dAny .v) := by
  intro pnz s σ H xs us Q I rx ⟨ω, N, ds, d, om, dom, hXx, hGg, k⟩
  match ds, hGg, hXx with
  | [.list es], hGg, hXx =>
    obtain ⟨v, rfl, h⟩ := InBs.one hXx
    obtain ⟨a, ys, rfl, ha, h1⟩ := h.list
    simp only [dAny] at hGg
    cases e : dBools es with
    | none => rw [e] at hGg; cases hGg
    | some bs =>
      rw [e] at hGg
      cases hGg
      have := h1.bools e
      subst this
      exact cr_any hCc pnz s σ H _ us Q I rx ⟨a, bs, rfl, .inl (.inl ha), k _ H (Same.refl H) (.bl _)⟩
section
variable {prog : Program} {w : World} {A : Around} {E : Value → Shared → Prop} {s : Shared}
open PySem
theorem iter_intTup {l : Addr} {xs : Array (Int × Tok)} {Q : Value → Shared → Prop} (hLl : s.heap.IsTuple l (intItems xs))
    (h : ∀ s₂ : Shared, s₂ = { s with heap := s.heap.push { cls := .type "tuple_iterator", data := .fields #[.ref l, .int 0 0] } } →
      (s₂.heap.IsTupleIter s.heap.objs.size l 0 ∧ s₂.heap.IsTuple l (intItems xs)) → (∀ b ∈ [s.heap.objs.size, l], b < s₂.heap.objs.size) → l ≠ s.heap.objs.size → Q (.ref s.heap.objs.size) s₂) :
    wpAny (model prog w) A (pyIter (.ref l)) Q E s := by
  have hlt : l < s.heap.objs.size := by obtain ⟨_, e, _⟩ := hLl; exact Heap.lt_size e
  have hPp : (s.heap.push { cls := .type "tuple_iterator", data := .fields #[.ref l, .int 0 0] }).IsTuple l (intItems xs) := by
    obtain ⟨o, e, r⟩ := hLl
    exact ⟨o, Heap.get?_push_of_some _ e, r⟩
  refine wpAny_pyIter_tuple hLl (h _ rfl ⟨⟨_, Heap.get?_push_size _ rfl, rfl, rfl⟩, hPp⟩ (fun b hb => ?_) (Nat.ne_of_lt hlt))
  show b < (s.heap.push _).objs.size
  rw [Heap.size_push]
  rcases List.mem_cons.mp hb with rfl | hb
  · exact Nat.lt_succ_self _
  · rcases List.mem_cons.mp hb with rfl | hb
    · exact Nat.lt_succ_of_lt hlt
    · cases hb
theorem old_keptT {l : Addr} {h' : Heap} (hKk : ∀ b o, b ∉ [s.heap.objs.size] → (s.heap.push { cls := .type "tuple_iterator", data := .fields #[.ref l, .int 0 0] }).get? b = some o → h'.get? b = some o) :
    ∀ b o, s.heap.get? b = some o → h'.get? b = some o := fun b o e => by
  refine hKk b o (fun hMm => ?_) (Heap.get?_push_of_some _ e)
  rcases List.mem_cons.mp hMm with eQ1 | hMm
  · exact absurd (eQ1 ▸ Heap.lt_size e) (Nat.lt_irrefl _)
  · cases hMm
theorem max_intTup {l : Addr} {xs : Array (Int × Tok)} {Q : Value → Shared → Prop} (hHh : A.handled = none) (hLl : s.heap.IsTuple l (intItems xs)) (hNe : 0 < xs.size)
    (h : ∀ v h' tk, (intItems xs)[argBest (fun i j => decide (numAt xs i > numAt xs j)) (xs.size - 1)]? = some v → (∀ b o, s.heap.get? b = some o → h'.get? b = some o) → Q v { s with heap := h', toks := tk }) :
    wpAny (model prog w) A (call (.builtin "max") [.ref l]) Q E s := by
  refine call_max_walk (iter_intTup hLl fun s₂ e sTt hfp hlI => ?_)
  subst e
  refine ⟨_, _, _, _, _, _, _, rfl, Walks.tuple (A := A.in1) hHh _ l hlI (intItems xs), sTt, hfp, by simpa [intItems] using hNe, CmpOf.ints_gt (numAt xs) (fun _ _ => intItems_at), fun v h' tk hP hKk => ?_⟩
  exact h v h' tk (by simpa [intItems] using hP) (old_keptT hKk)
end
section
variable {prog : Program} {w : World} {A : Around} {E : Value → Shared → Prop} {s : Shared}
open HT PySem in
theorem max_rawT {l : Addr} {itz : List Value} {ns : List Int} {Q : Value → Shared → Prop} (hHh : A.handled = none) (hLl : s.heap.IsTuple l itz.toArray) (hIi : IntsAre itz ns) (hNe : 0 < ns.length)
    (h : ∀ h' tk M t', (∀ b o, s.heap.get? b = some o → h'.get? b = some o) → M ∈ ns → (∀ a, a ∈ ns → a ≤ M) → Q (.int M t') { s with heap := h', toks := tk }) : wpAny (model prog w) A (call (.builtin "max") [.ref l]) Q E s := by
  obtain ⟨xs, e⟩ := hIi.allInts.items
  have hNn : numsOf (intItems xs).toList = ns := by rw [← e]; exact hIi.numsOf
  rw [nums_intItems] at hNn
  subst hNn
  rw [e] at hLl
  have hSz : 0 < xs.size := by simpa using hNe
  refine max_intTup hHh hLl hSz fun v h' tk hVv hKk => ?_
  obtain ⟨t, rfl⟩ := intItems_at hVv
  obtain ⟨h1, h2⟩ := argBest_gt (numAt xs) (xs.size - 1)
  refine h h' tk _ t hKk ?_ fun a ha => ?_
  · rw [numAt_eq]; exact PySem.getD_mem (by rw [List.length_map, Array.length_toList]; omega)
  · obtain ⟨j, hj, rfl⟩ := mem_getD ha
    rw [List.length_map, Array.length_toList] at hj
    rw [← numAt_eq]; exact h2 j (by omega)
end
theorem c_max1 (hCc : X.calm = true) : CallR X (.builtin "max") (rDn X.K dMax1 .v) := by
  intro pnz s σ H xs us Q I rx ⟨ω, N, ds, d, om, dom, hXx, hGg, k⟩
  match ds, hGg, hXx with
  | [.list es], hGg, hXx =>
    obtain ⟨v, rfl, h⟩ := InBs.one hXx
    obtain ⟨a, ys, rfl, ha, h1⟩ := h.list
    simp only [dMax1] at hGg
    cases e : dNums es with
    | none => rw [e] at hGg; cases hGg
    | some bs =>
      rw [e] at hGg
      cases bs with
      | nil => cases hGg
      | cons n ns =>
        cases hGg
        have := h1.nums e
        subst this
        refine cr_max hCc pnz s σ H _ us Q I rx ⟨a, n :: ns, rfl, .inl (.inl ha), Nat.succ_pos _, fun m hMm hLe => k _ H (Same.refl H) ?_⟩
        rw [max_uniq hMm hLe]
        exact .int _
  | [.tuple es], hGg, hXx =>
    obtain ⟨v, rfl, h⟩ := InBs.one hXx
    obtain ⟨a, ys, rfl, ha, h1⟩ := h.tuple
    simp only [dMax1] at hGg
    cases e : dNums es with
    | none => rw [e] at hGg; cases hGg
    | some bs =>
      rw [e] at hGg
      cases bs with
      | nil => cases hGg
      | cons n ns =>
        cases hGg
        have := h1.nums e
        subst this
        obtain ⟨itz, rVs, hLl, _⟩ := I.tuple ha
        rw [Vals.ref1 rx]
        refine max_rawT (I.ok.hd hCc) hLl rVs.ints (Nat.succ_pos _) fun h' tk m t' hKk hMm hLe => ⟨.int m, H, I.kept hKk, ⟨_, rfl⟩, k _ H (Same.refl H) ?_⟩
        rw [max_uniq hMm hLe]
        exact .int _
end
end DL
end
section
set_option linter.all false
set_option maxRecDepth 100000
namespace DL
open PySem PySem.Spec PyProof.Rows L2
section
variable {X : Cx} {k : Kd} {st : Stmt} {e : Expr} {pos : Pos}
/-- x[j], x[l] = e -/
def putIx (i : Nat) (env : Ev) (j d : D) : Option Ev := match env[i]? with
  | some (some (.own (.list ds))) => match j with
    | .int m => match ixN ds.length m with
      | some n => some (env.set i (some (.own (.list (ds.set n d)))))
      | none => none
    | _ => none
  | _ => none
def pairOf : D → Option (D × D)
  | .tuple [x, y] => some (x, y)
  | _ => none
theorem pairOf_some {d x y : D} (h : pairOf d = some (x, y)) : d = .tuple [x, y] := by
  unfold pairOf at h
  split at h
  · cases h; rfl
  · cases h
def isOwnL (env : Ev) (i : Nat) : Bool := match env[i]? with
  | some (some (.own (.list _))) => true
  | _ => false
theorem isOwnL_some {env : Ev} {i : Nat} (h : isOwnL env i = true) : ∃ ds, env[i]? = some (some (.own (.list ds))) := by
  unfold isOwnL at h
  split at h
  · rename_i ds hi; exact ⟨ds, hi⟩
  · cases h
def sSetIx2 (i : Nat) (fe fj fl : FE) : FS := fun env => if isOwnL env i = true then (fe env).bind fun d => match pairOf d with
  | some (x, y) => (fj env).bind fun j => match putIx i env j x with
    | some env1 => (fl env1).bind fun l => match putIx i env1 l y with
      | some env2 => .ret (.nx env2)
      | none => .fail
    | none => .fail
  | none => .fail
  else .fail
theorem putIx_some {i : Nat} {env env1 : Ev} {j d : D} (h : putIx i env j d = some env1) : ∃ ds m n, env[i]? = some (some (.own (.list ds))) ∧ j = .int m ∧ ixN ds.length m = some n ∧ env1 = env.set i (some (.own (.list (ds.set n d)))) := by
  unfold putIx at h
  split at h
  · rename_i ds hi
    cases j with
    | int m =>
      cases e : ixN ds.length m with
      | none => simp only [e] at h; cases h
      | some n =>
        simp only [e] at h
        cases h
        exact ⟨ds, m, n, hi, rfl, e, rfl⟩
    | _ => cases h
  · cases h
theorem one_put {K : PySem.W.Frag} {ω : Option Om} {N : Addr → Prop} {E H : Hp} {b : Nat} {env : Ev} {σ : L2.St} {i : Nat} {fj : FE} {d : D} {v : V} {Q : L2.St → Hp → Prop} {P : D → Nat → Prop} (r : RepE K ω N E H b env σ) (iv : In K N H v d)
    (hj : (fj env).All b P)
    (k : ∀ j c, P j c → ∃ env1, putIx i env j d = some env1 ∧ ∀ H2, RepE K ω N E H2 c env1 σ → Pres K N N H H2 → Q σ H2) (h0 : ∃ ds, env[i]? = some (some (.own (.list ds)))) : gSub (tVar i) (tX K .b fj) rSetL v σ H Q := by
  obtain ⟨ds, hi⟩ := h0
  obtain ⟨va, hs, a, rfl, na, no, ea, xs, ha, h1⟩ := r.slot i _ hi
  refine ⟨_, hs, ω, N, E, b, env, r, Tr.All_mono hj fun j c pj u H2 k2 o2 i2 => ?_⟩
  obtain ⟨env1, he, q⟩ := k j c pj
  obtain ⟨ds', m, n, hi', rfl, en, rfl⟩ := putIx_some he
  rw [hi] at hi'
  cases hi'
  have r2 := r.move k2 o2
  have ha2 : H2 a = some (.lst xs) := k2 _ _ ha no
  have h2 : InAll K N H2 xs ds := h1.keep r.om k2
  cases InB.int i2
  refine ⟨a, xs, m, n, rfl, rfl, ha2, by rw [h1.length]; exact en, ?_⟩
  refine q _ (r2.write hi hs na no ea ⟨xs.set n v, upd_same, ?_⟩) ((Pres.keep r.om k2).trans (pres_write na))
  exact (h2.set n (In.keep iv r.om k2)).mono (fun _ z => .inl z) fun x ob e n => by
    rw [upd_ne (fun z => n (by rw [z]; exact na))]
    exact e
theorem xs_setIx2 {i : Nat} {fe fj fl : FE} (h : PS X st (tAsg (tX X.K .v fe) (gTup X.K 2 (gCons (gSub (tVar i) (tX X.K .b fj) rSetL) (gCons (gSub (tVar i) (tX X.K .b fl) rSetL) gNil))))) : XS X k st (sSetIx2 i fe fj fl) := weakS h fun D' σ H ⟨ω, N0, N, E, b, env, r, n0, e0, q⟩ => by
  unfold sSetIx2 at q
  split at q
  case isFalse => exact q.elim
  rename_i ho
  have own1 := isOwnL_some ho
  refine ⟨ω, N, E, b, env, r, Tr.All_mono ((Tr.All_bind _ _ _ _).mp q) fun d c qa v H1 k1 o1 i1 => ?_⟩
  have r1 := r.move k1 o1
  split at qa
  case h_2 => exact qa.elim
  rename_i x y hp
  have hd := pairOf_some hp
  subst hd
  obtain ⟨a, xs, rfl, ha, h1⟩ := In.tuple_inv i1
  cases h1 with
  | cons hv1 h1 =>
    cases h1 with
    | cons hv2 h1 =>
      cases h1
      have qa := (Tr.All_bind _ _ _ _).mp qa
      refine ⟨a, _, rfl, ha, rfl, _, _, rfl, ?_⟩
      refine one_put r1 hv1 qa (fun j cj pj => ?_) own1
      cases e : putIx i env j x with
      | none => simp only [e] at pj; exact pj.elim
      | some env1 =>
        simp only [e] at pj
        refine ⟨env1, rfl, fun H2 r2 p2 => ⟨_, _, rfl, ?_⟩⟩
        have pj := (Tr.All_bind _ _ _ _).mp pj
        have own2 : ∃ ds, env1[i]? = some (some (.own (.list ds))) := by
          obtain ⟨ds, m, n, hi, _, _, rfl⟩ := putIx_some e
          exact ⟨_, List.getElem?_set_self (by have := List.getElem?_eq_some_iff.mp hi; obtain ⟨q, _⟩ := this; exact q)⟩
        refine one_put r2 (p2 _ _ hv2) pj (fun l cl pl => ?_) own2
        cases e2 : putIx i env1 l y with
        | none => simp only [e2] at pl; exact pl.elim
        | some env2 =>
          simp only [e2] at pl
          exact ⟨env2, rfl, fun H3 r3 p3 => ⟨rfl, pl N H3 σ r3 n0 (((Pres.keep r.om k1).trans p2).trans p3)⟩⟩
end
end DL
end
section
set_option linter.all false
set_option maxRecDepth 100000
namespace DL
open PySem PySem.Spec PyProof.Rows L2
/-! ### repr of data without dicts -/
def dRepr : List D → Option D
  | [d] => if d.showable = true ∧ d.hasDict = false ∧ d.depth ≤ 30 ∧ d.shown.length ≤ sizeLine then some (.str d.shown) else none
  | _ => none
section
variable {X : Cx}
theorem repr_any {pins : List (Addr × Obj)} {σ : L2.St} {H : Hp} {s : Shared} {Q : Value → Shared → Prop} {d : D} {u : Value} {as : List Addr} (r : Reads s.heap u d as) (hs : d.showable = true) (hn : d.hasDict = false) (hd : d.depth ≤ 30) (hz : d.shown.length ≤ sizeLine) (hgd : X.A.guards = some []) (hu : X.A.units + 64 < cLine)
    (h : ∀ h' t tk, (∀ b o, s.heap.get? b = some o → h'.get? b = some o) → Q (.str d.shown t) { s with heap := h', toks := tk }) : wpAny (model X.prog X.w) X.A (call (.builtin "repr") [u]) Q X.xe s := by
  cases r with
  | none => exact P.repr_of_none (h s.heap s.toks (s.toks + 1) fun _ _ e => e)
  | bool b =>
    refine P.repr_of_bool ?_
    have q := h s.heap s.toks (s.toks + 1) fun _ _ e => e
    cases b <;> simpa [PyData.shown] using q
  | int i t =>
    have e : (PyData.int i).shown = toString i := by simp [PyData.shown]
    rw [e] at h
    exact P.repr_of_int (by simpa [PyData.showable] using hs) (h s.heap s.toks (s.toks + 1) fun _ _ e => e)
  | str x t =>
    have e : (PyData.str x).shown = reprText x := by simp [PyData.shown]
    rw [e] at h hz
    exact P.repr_of_str (h s.heap s.toks (s.toks + 1) fun _ _ e => e) hz
  | list a b c d => exact repr_of_reads' (.list a b c d) hs (PyData.noDict_hsm hn) hgd (by omega) (fun _ _ e => e) (fun h' t tk hk => h h' t tk hk) hz
  | tuple a b c d => exact repr_of_reads' (.tuple a b c d) hs (PyData.noDict_hsm hn) hgd (by omega) (fun _ _ e => e) (fun h' t tk hk => h h' t tk hk) hz
  | dict a b c d e => simp [PyData.hasDict] at hn
theorem c_repr (hgd : X.A.guards = some []) (hu : X.A.units + 64 < cLine) : CallR X (.builtin "repr") (rDn X.K dRepr .v) := by
  intro pins s σ H xs us Q I rx ⟨ω, N, ds, d, om, dom, hx, hg, k⟩
  match ds, hg, hx with
  | [d], hg, hx =>
    obtain ⟨v, rfl, h⟩ := InBs.one hx
    simp only [dRepr] at hg
    split at hg
    case isFalse => cases hg
    rename_i hc
    cases hg
    obtain ⟨u, rfl, rv⟩ := vals1 rx
    obtain ⟨as, rr⟩ := Dp.reads I d v u (h.dp hc.2.1) rv
    refine repr_any (pins := pins) (σ := σ) (H := H) rr hc.1 hc.2.1 hc.2.2.1 hc.2.2.2 hgd hu fun h' t tk hk => ⟨.str d.shown, H, I.kept hk, ⟨t, rfl⟩, k _ H (Same.refl H) (.str _)⟩
end
theorem xe_revE {X : Cx} {e : Expr} {f : FE} {k : Nat} {p1 p2 p3 pos : Pos} (he : XE X .b e f) : XE X .v (.Subscript e (.Slice none none (some (.UnaryOp .USub (.Constant (.int 1) k p1) p2)) p3) pos) (eRev f) := xe_rev (pe_revA he)
end DL
end
section
set_option linter.all false
set_option maxRecDepth 100000
namespace DL
open PySem PySem.Spec PyProof.Rows L2
/-! ### defs and calls by hand -/
theorem fnG_raw {P : Program} {w : World} {K : PySem.W.Frag} {mg : Str → Option Value} {base : Heap} {x qual : Str} {st : Stmt} {f : Addr} {fd : FuncData} {Ns ps : List Str} {m : Nat} {sp : Sp} (F : Fun K x qual st f fd) (S : FnScope Ns ps (defScope st)) (len : ∀ vs H Q E, sp vs H Q E → vs.length = ps.length)
    (hbody : ∀ (cdv : Value) (A : Around) (outer : List Env) (s : Shared) (H : Hp) (vs : List V) (Q : VK) (E : XK), Room m (A.deeper (envOfC qual (defScope st) s.heap.objs.size f cdv)) → A.guards = some [] → sp vs H Q E →
      ∃ t, PSs (cxOf CX0 P w K mg base Ns qual (defScope st) f cdv A outer s H E).nox (defBody st) t ∧ t { nx := fun _ H' => Q .non H', rt := Q } (L2.start Ns vs) H) : FnG P w K mg base (m + 1) f fd ps sp := by
  obtain ⟨oc, od, kV, doc, pm, an, cdv, ct, osl, rfl, lk, hcd⟩ := F.ex
  refine ⟨len, fun {A} hg hr {outer s H args us vs Q E} e0 hb hv hs => LamX.run_ofS lk hcd S hr e0 hb hv (len _ _ _ _ hs) fun hr' => ?_⟩
  obtain ⟨t, h, q⟩ := hbody cdv A outer s H vs Q E hr' hg hs
  exact ⟨t, h.nox, q⟩
theorem spD_len {K : PySem.W.Frag} {k : Kd} {n : Nat} {F : List Slot → Tr D} {vs : List V} {H : Hp} {Q : VK} {E : XK} (h : spD K k n F vs H Q E) : vs.length = n := by
  obtain ⟨ω, N, b, ss, hl, om, dom, orc, h, q⟩ := h
  exact h.length.symm.trans hl
theorem pe_callG {X : Cx} {e : Expr} {es : List Expr} {pos p : Pos} {x : Str} {j : Nat} {ps : List Str} {sp : Sp} {t : TA} (C : Cal X.prog X.w X.K X.mg X.base x j ps sp) (hr : Room j X.A) (hgd : X.A.guards = some []) (hg : Gl X x) (ha : PA X (e :: es) t)
    (hdb : (x == ("__debug__" : Str)) = false := by decide) (he : starEach (e :: es) X.env = (false, eval e X.env) :: starEach es X.env := by rfl) (hpl : (backTo pos (starEach es X.env)).any (·.1) = false := by rfl) : PE X (.Call (.Name x p) (e :: es) [] pos) (fun σ H Q => t σ H fun vs H1 => sp vs H1 Q E0) := by
  obtain ⟨f, fd, G, hb, hm, hk⟩ := C.ex
  refine ⟨fun pins s σ H Q I h => wpAny_Call_Name_kw (ld_glob I hg hm (PySem.W.callWith_K (h₀ := X.base) I.ok.mod.kin hk (thn (ha.run pos pins s σ H _ I h) fun us s1 ⟨vs, H1, I1, rv, q⟩ => ⟨I1.kIn, ?_⟩) he hpl) hdb)⟩
  exact G.call hgd hr hb I1 rv q
end DL
end
section
set_option maxRecDepth 100000
namespace DL
open PySem PySem.Spec PyProof.Rows L2
/-! ### the drawing dict -/
def kvO (c g : Addr) (n : Int) : List (Key × V) := [(.inr "cells", .ref c), (.inr "great", .ref g), (.inr "spot", .int n)]
theorem kvO_cells {c g : Addr} {n : Int} : valV (kvO c g n) (.inr "cells") = some (.ref c) := rfl
theorem kvO_great {c g : Addr} {n : Int} : valV (kvO c g n) (.inr "great") = some (.ref g) := rfl
theorem kvO_spot {c g : Addr} {n : Int} : valV (kvO c g n) (.inr "spot") = some (.int n) := rfl
theorem kvO_put {c g : Addr} {n m : Int} : putK (kvO c g n) (.inr "spot") (.int m) = kvO c g m := rfl
/-- the drawing state with its parts told -/
structure OrcP (w : Om) (cells great : List Int) (n : Int) (b : Nat) (H : Hp) : Prop where
  dict : H w.a = some (.dK (kvO w.c w.g n))
  cel : H w.c = some (.lst (cells.map V.int))
  gre : H w.g = some (.lst (great.map V.int))
  len : cells.length = 64
  cb : ∀ x ∈ cells, 0 ≤ x ∧ x < 2147483647
  gl : great.length ≤ 63
  gb : ∀ x ∈ great, 0 ≤ x ∧ x.natAbs < 2 ^ 1048577
  n0 : 0 ≤ n
  nb : n + b ≤ 2 ^ 40
  ne : w.c ≠ w.g
theorem Orc.parts {w : Om} {b : Nat} {H : Hp} (h : Orc w b H) : ∃ cells great n, OrcP w cells great n b H := by
  obtain ⟨cells, great, n, h1, h2, h3, h4, h5, h6, h7, h8, h9, h10⟩ := h
  exact ⟨cells, great, n, h1, h2, h3, h4, h5, h6, h7, h8, h9, h10⟩
theorem OrcP.orc {w : Om} {cells great : List Int} {n : Int} {b : Nat} {H : Hp} (h : OrcP w cells great n b H) : Orc w b H :=
  ⟨cells, great, n, h.dict, h.cel, h.gre, h.len, h.cb, h.gl, h.gb, h.n0, h.nb, h.ne⟩
theorem OrcP.acNe {w : Om} {cells great : List Int} {n : Int} {b : Nat} {H : Hp} (h : OrcP w cells great n b H) : w.a ≠ w.c := fun e => by
  have := h.dict
  rw [e, h.cel] at this
  cases this
theorem OrcP.agNe {w : Om} {cells great : List Int} {n : Int} {b : Nat} {H : Hp} (h : OrcP w cells great n b H) : w.a ≠ w.g := fun e => by
  have := h.dict
  rw [e, h.gre] at this
  cases this
theorem OrcP.step {w : Om} {cells great : List Int} {n : Int} {b : Nat} {H : Hp} (h : OrcP w cells great n (b + 1) H) : OrcP w cells great (n + 1) b (upd H w.a (.dK (kvO w.c w.g (n + 1)))) where
  dict := upd_same
  cel := by rw [upd_ne (Ne.symm h.acNe)]; exact h.cel
  gre := by rw [upd_ne (Ne.symm h.agNe)]; exact h.gre
  len := h.len
  cb := h.cb
  gl := h.gl
  gb := h.gb
  n0 := by have := h.n0; omega
  nb := by have := h.nb; omega
  ne := h.ne
theorem OrcP.same {w : Om} {cells great : List Int} {n : Int} {b : Nat} {H H' : Hp} (h : OrcP w cells great n b H) (s : Same H H') : OrcP w cells great n b H' :=
  ⟨s _ _ h.dict, s _ _ h.cel, s _ _ h.gre, h.len, h.cb, h.gl, h.gb, h.n0, h.nb, h.ne⟩
theorem OrcP.less {w : Om} {cells great : List Int} {n : Int} {b : Nat} {H : Hp} (h : OrcP w cells great n b H) {j : Nat} {x : Int} (hx : 0 ≤ x ∧ x.natAbs < 2 ^ 1048577) : OrcP w cells (great.set j x) n b (upd H w.g (.lst ((great.set j x).map V.int))) where
  dict := by rw [upd_ne h.agNe]; exact h.dict
  cel := by rw [upd_ne h.ne]; exact h.cel
  gre := upd_same
  len := h.len
  cb := h.cb
  gl := by rw [List.length_set]; exact h.gl
  gb := fun y hy => by
    rcases List.mem_or_eq_of_mem_set hy with hy | rfl
    · exact h.gb y hy
    · exact hx
  n0 := h.n0
  nb := h.nb
  ne := h.ne
def fDraw : List Slot → Tr D
  | [.orc, .val (.int l)] => if 1 ≤ l ∧ l < 1073741824 then .draw l.toNat fun i => .ret (.int (i : Nat)) else .fail
  | _ => .fail
end DL
end
section
set_option linter.all false
set_option maxRecDepth 100000
namespace DL
open PySem PySem.Spec PyProof.Rows L2
/-! ### ** -/
def dPow : D → D → Option D
  | .int i, .int j => if 0 ≤ j ∧ j ≤ 1000 ∧ i.natAbs < 2 ^ 64 then some (.int (i ^ j.toNat)) else none
  | _, _ => none
theorem o_pow {X : Cx} : OpR X (binaryOp .Pow) (rD2 X.K dPow .v) := by
  intro pins s σ H x y v u Q I rx ry ⟨ω, N, d, e, z, om, dom, hx, hy, hg, k⟩
  cases d <;> cases e <;> first | (cases hg; done) | skip
  cases hx.int
  cases hy.int
  simp only [dPow] at hg
  split at hg
  · cases hg
    rename_i hz
    exact op_pow pins s σ H _ _ v u Q I rx ry ⟨_, _, rfl, rfl, ⟨hz.1, by omega, hz.2.2⟩, k _ H (Same.refl H) (.int _)⟩
  · cases hg
/-! ### loops over data by an invariant -/
theorem forD_inv {tgt : FG} {body : FS} (I : Ev → Prop) : ∀ (ds : List D) (env : Ev), I env → (∀ d ∈ ds, ∀ env, I env → ∃ env1 env2, tgt d env = some env1 ∧ body env1 = .ret (.nx env2) ∧ I env2) → ∃ env', forD tgt body ds env = .ret (.nx env') ∧ I env'
  | [], env, h, _ => ⟨env, rfl, h⟩
  | d :: ds, env, h, k => by
    obtain ⟨e1, e2, h1, h2, h3⟩ := k d (List.mem_cons_self ..) env h
    obtain ⟨e3, h4, h5⟩ := forD_inv I ds e2 h3 fun d hd => k d (List.mem_cons_of_mem _ hd)
    refine ⟨e3, ?_, h5⟩
    unfold forD
    rw [h1]
    simp only [h2, Tr.bind]
    exact h4
end DL
end
section
set_option linter.all false
set_option maxRecDepth 100000
namespace DL
open PySem PySem.Spec PyProof.Rows L2
/-! ### a, b = x, y through a tuple (a name of them is a cell) -/
theorem xs_parT {X : Cx} {k : Kd} {sTt : Stmt} {o1 o2 : Bool} {i j : Nat} {f1 f2 : FE} (h : PS X sTt (tAsg (tTup (tCons (tX X.K (kdOf o1) f1) (tCons (tX X.K (kdOf o2) f2) tNil))) (gTup X.K 2 (gCons (gName i) (gCons (gName j) gNil))))) : XS X k sTt (sPar o1 o2 i j f1 f2) := weakS h fun D' σ H ⟨ω, N0, N, E, b, env, r, n0, e0, q⟩ => by
  refine ⟨ω, N, E, b, env, r, Tr.All_mono ((Tr.All_bind _ _ _ _).mp q) fun x c qa v HA k1 o1' i1 => ?_⟩
  obtain ⟨N1, rA, rB, sA, p1⟩ := r.fill (i := i) k1 o1' i1
  refine ⟨ω, N1, E, c, env, rA, Tr.All_mono ((Tr.All_bind _ _ _ _).mp qa) fun y c2 qb u HB k2 o2' i2 => ?_⟩
  refine ⟨by show 2 ≤ sizeLine; decide, fun p hPp => ⟨p, [v, u], rfl, .inl (.inl upd_same), rfl, v, [u], rfl, u, [], rfl, rfl, ?_⟩⟩
  obtain ⟨N2, _, rC, sB, p2⟩ := rB.fill (i := j) k2 o2' i2
  exact qb N2 _ _ (rC.move (Keep.of (same_new hPp)) (o2'.same (same_new hPp))) (fun z hZz => sB z (sA z (n0 z hZz))) ((p1.trans p2).trans (Pres.keep rC.om (Keep.of (ω := ω) (same_new hPp))))
/-! ### calls by keywords, all of them in their order -/
structure CalK (P : Program) (w : World) (K : PySem.W.Frag) (mg : Str → Option Value) (base : Heap) (x : Str) (j : Nat) (ps : List Str) (g : List Value → List Value) (gV : List V → List V) (sp : Sp) (ks : List Str) : Prop where
  ex : ∃ f fd, FnG P w K mg base j f fd ps sp ∧ (∀ (s : Shared) (ws : List Value), K.In s.heap → (g ws).length = ps.length → BindsTo s fd ⟨[], ks.zip ws⟩ (ps.zip (g ws))) ∧ (∀ {zs : List V} {ws : List Value}, Vals zs ws → Vals (gV zs) (g ws)) ∧ mg x = some (.ref f) ∧ PySem.W.keepIn K (.ref f) = true
theorem pe_callGK {X : Cx} {pos p : Pos} {x : Str} {j : Nat} {ps ks : List Str} {sp : Sp} {tk : TA} {kws : List Keyword} {g : List Value → List Value} {gV : List V → List V} (C : CalK X.prog X.w X.K X.mg X.base x j ps g gV sp ks) (hr : Room j X.A) (hgd : X.A.guards = some []) (hGg : Gl X x) (hkw : PK X kws tk)
    (hall : (backToKw pos (keywordEach kws X.env)).all (·.1.isSome) = true := by rfl) (hks : (backToKw pos (keywordEach kws X.env)).filterMap (·.1) = ks := by rfl) (hdb : (x == ("__debug__" : Str)) = false := by decide)
    (hpl : ((backTo pos (starEach [] X.env)).any (·.1) || (backToKw pos (keywordEach kws X.env)).any (·.1.isNone)) = false := by rfl) : PE X (.Call (.Name x p) [] kws pos) (fun σ H Q => tk σ H fun zs HA => sp (gV zs) HA Q E0) := by
  obtain ⟨f, fd, G, hb, hrel, hMm, hKk⟩ := C.ex
  refine ⟨fun pnz s σ H Q I h => ?_⟩
  refine wpAny_Call_Name_kw (ld_glob I hGg hMm ?_ hdb)
  refine PySem.W.callWith_KW0 (h₀ := X.base) I.ok.mod.kin hKk hall (thn (hkw.run pos pnz s σ H _ I h) fun ws sA ⟨zs, HA, IA, rz, q⟩ => ⟨IA.kIn, ?_⟩) hpl
  rw [hks]
  have rVs := hrel rz
  have hLen : (g ws).length = ps.length := by rw [← rVs.length]; exact G.len _ _ _ _ q
  refine wpAny_call (codeAny_mono (G.go hgd hr IA.env0 (hb sA ws IA.kIn hLen) rVs q) fun out sB fin => ?_)
  match out, fin with
  | .error ex, fin => exact pass0 pnz σ HA sA ex sB IA fin
  | .ok (.ret u), fin => exact IA.after fin
section
variable {X : Cx}
theorem weakK {es : List Keyword} {t t' : TA} (h : PK X es t) (k : ∀ σ H Q, t' σ H Q → t σ H Q) : PK X es t' := ⟨fun p pnz s σ H Q I q => h.run p pnz s σ H Q I (k σ H Q q)⟩
theorem xk_nil : PK X [] (tAs X.K aNil) := weakK pk_nil fun σ H Q ⟨ω, N, E, b, env, r, q⟩ => q [] H Keep.refl r.orc .nil
theorem xk_val {nm : Option Str} {e : Expr} {kpos : Pos} {kws : List Keyword} {f : FE} {r : FA} (h : XE X .v e f) (hr : PK X kws (tAs X.K r)) : PK X (⟨nm, e, kpos⟩ :: kws) (tAs X.K (aVal f r)) := weakK (pk_cons h hr) fun σ H Q ⟨ω, N, E, b, env, r, q⟩ => by
  refine ⟨ω, N, E, b, env, r, Tr.All_mono ((Tr.All_bind _ _ _ _).mp q) fun d c qa v HA k1 o1 i1 => ?_⟩
  refine ⟨ω, N, E, c, env, r.move k1 o1, Tr.All_mono ((Tr.All_bind _ _ _ _).mp qa) fun ss c2 qb vs HB k2 o2 i2 => ?_⟩
  exact qb (v :: vs) HB (k1.trans k2) o2 (.cons (In.keep i1 r.om k2) i2)
/-- f(a = e, ..), in the order of the parameters -/
theorem xe_callK {pos p : Pos} {x : Str} {j n : Nat} {ps ks : List Str} {F : List Slot → Tr D} {k : Kd} {r : FA} {kws : List Keyword} (C : CalK X.prog X.w X.K X.mg X.base x j ps id id (spD X.K k n F) ks) (hr : Room j X.A) (hgd : X.A.guards = some []) (hGg : Gl X x) (hkw : PK X kws (tAs X.K r)) (hNn : ArgN r n)
    (hall : (backToKw pos (keywordEach kws X.env)).all (·.1.isSome) = true := by rfl) (hks : (backToKw pos (keywordEach kws X.env)).filterMap (·.1) = ks := by rfl) (hdb : (x == ("__debug__" : Str)) = false := by decide)
    (hpl : ((backTo pos (starEach [] X.env)).any (·.1) || (backToKw pos (keywordEach kws X.env)).any (·.1.isNone)) = false := by rfl) : XE X k (.Call (.Name x p) [] kws pos) (eCall F r) :=
  weak (pe_callGK C hr hgd hGg hkw hall hks hdb hpl) fun σ H Q h => by
  have q := readF hNn h
  obtain ⟨ω, N, E, b, env, r, q⟩ := q
  exact ⟨ω, N, E, b, env, r, Tr.All_mono q fun ss c qa vs HA k1 o1 i1 => by simpa using qa vs HA k1 o1 i1⟩
end
end DL
end
section
set_option linter.all false
set_option maxRecDepth 100000
namespace DL
open PySem PySem.Spec PyProof.Rows L2
/-! ### len(set(xs)), xs a list of whole numbers -/
def distinct (ns : List Int) : List Int := ns.foldl step_dedup []
theorem range_getD (ns : List Int) : (List.range ns.length).map (fun i => ns.getD i 0) = ns := by
  apply List.ext_getElem?
  intro i
  by_cases hIi : i < ns.length
  · rw [List.getElem?_map, List.getElem?_range hIi, List.getElem?_eq_getElem hIi]
    simp [List.getD_eq_getElem?_getD, hIi]
  · rw [List.getElem?_eq_none (by simpa using hIi), List.getElem?_eq_none (by simpa using hIi)]
theorem met_all (ns : List Int) : firstMet (fun i => ns.getD i 0) ns.length = distinct ns := by
  unfold firstMet distinct
  rw [range_getD]
def dLenSet : D → Option D
  | .list ds => (dNums ds).bind fun ns => if ns.length ≤ 4000 then some (.int ((distinct ns).length : Nat)) else none
  | .tuple [] => some (.int (0 : Nat))
  | _ => none
def eLenSet (f : FE) : FE := fun env => (f env).bind fun d => Tr.ofOpt (dLenSet d)
theorem xe_lenSet {X : Cx} {a : Expr} {f : FE} {p p2 q pos : Pos} (hGg : Gl X "len") (hMm : X.mg "len" = none) (hg2 : Gl X "set") (hm2 : X.mg "set" = none) (ha : XE X .b a f) (hCc : X.calm = true := by rfl)
    (na : starEach [a] X.env = (false, eval a X.env) :: starEach [] X.env := by rfl) : XE X .v (.Call (.Name "len" p) [.Call (.Name "set" p2) [a] [] q] [] pos) (eLenSet f) := by
  refine ⟨fun pnz s σ H Q I h => ?_⟩
  obtain ⟨ω, N, E, b, env, r, qq⟩ := h
  refine Call_ (ld_blt I hGg hMm PySem.boot_len ?_)
  refine PyProof.Rows.callWith_builtin1 (PyProof.Rows.args_cons ?_ rfl) rfl rfl
  refine Call_ (ld_blt I hg2 hm2 PyProof.Rows.boot_set ?_)
  refine PyProof.Rows.callWith_type1 (PyProof.Rows.args_cons (thn (ha.run pnz s σ H (fun v HA => (∃ l ns, v = .ref l ∧ SqL X.K HA l (List.map V.int ns) ∧ ns.length ≤ 4000 ∧ Q (.int ((distinct ns).length : Nat)) HA) ∨ ∃ l, v = .ref l ∧ SqT X.K HA l [] ∧ Q (.int (0 : Nat)) HA) I ⟨ω, N, E, b, env, r, Tr.All_mono ((Tr.All_bind _ _ _ _).mp qq) fun d c qa v HA k1 o1 i1 => ?_⟩) fun v sA ⟨x, HA, IA, rA, qA⟩ => PyProof.Rows.args_nil ?_) na) na rfl
  · have i1 : InB X.K ω N HA v d := i1
    cases d with
    | list ds =>
      obtain ⟨l, xs, rfl, hLl, h1⟩ := i1.list
      simp only [dLenSet] at qa
      cases e : dNums ds with
      | none => rw [e] at qa; exact qa.elim
      | some ns =>
        rw [e] at qa
        simp only [Option.bind_some] at qa
        split at qa
        · rename_i hZz
          have := h1.nums e
          subst this
          exact .inl ⟨l, ns, rfl, .inl (.inl hLl), hZz, qa _ HA k1 o1 (.int _)⟩
        · exact qa.elim
    | tuple ds =>
      obtain ⟨l, xs, rfl, hLl, h1⟩ := i1.tuple
      cases ds with
      | nil =>
        cases h1
        exact .inr ⟨l, rfl, hLl, qa _ HA k1 o1 (.int _)⟩
      | cons _ _ => exact qa.elim
    | _ => exact qa.elim
  · rcases qA with qA | ⟨l, ex, hQq, qA⟩
    rotate_left
    · subst ex
      cases rA
      obtain ⟨itz, r, pl, _⟩ := IA.tuple hQq
      cases r
      refine SS.call_set_tupleS (xs := []) (IA.ok.hd hCc) (show sA.heap.IsTuple l ([] : List Value).toArray from pl) .nil (Nat.zero_le _) fun h' tk hS hKk => ?_
      refine PyProof.Rows.args_nil ?_
      obtain ⟨o, es, ep, t, hOo, hex, hDd, _, _, _, hFf, hNn⟩ := hS
      have IB : Inv X pnz σ HA { sA with heap := h', toks := tk } := IA.kept fun b o e => hKk b o (Heap.lt_size e) e
      have z : es.size = 0 := hNn
      exact call_len_set hOo hex hDd hFf (by rw [z]; decide) ⟨.int (0 : Nat), HA, IB.tok _, ⟨_, by rw [z]⟩, qA⟩
    obtain ⟨l, ns, ex, hQq, hZz, qA⟩ := qA
    subst ex
    cases rA
    obtain ⟨itz, r, pl, _⟩ := IA.list hQq
    have hLen : itz.toArray.size = ns.length := by rw [List.size_toArray, ← r.length, List.length_map]
    refine call_set_list (IA.ok.hd hCc) pl.isList (by simpa using r.ints) (by rw [hLen]; unfold scanBound; omega) fun h' tk hS hKk => ?_
    refine PyProof.Rows.args_nil ?_
    rw [hLen, met_all] at hS
    obtain ⟨o, es, ep, t, hOo, hex, hDd, _, _, _, hFf, hNn⟩ := hS
    have hLe : (distinct ns).length ≤ ns.length := by rw [← met_all]; exact firstMet_length_le _ _
    have IB : Inv X pnz σ HA { sA with heap := h', toks := tk } := IA.kept fun b o e => hKk b o (Heap.lt_size e) e
    exact call_len_set hOo hex hDd hFf (by rw [hNn] <;> omega) ⟨.int ((distinct ns).length : Nat), HA, IB.tok _, ⟨_, by rw [hNn]⟩, qA⟩
end DL
end
section
set_option linter.all false
set_option maxRecDepth 100000
namespace DL
open PySem PySem.Spec PyProof.Rows L2
/-! ### isinstance(x, T), T a built-in type -/
def tyN : D → Option String
  | .dict ((.none, _) :: _) => none
  | .dict _ => some "dict"
  | d => tyName d
def isiB (n T : String) : Bool := n == T || (n == "bool" && T == "int")
def tyNames : List String := ["NoneType", "bool", "int", "str", "list", "tuple", "dict"]
def eIsi (T : String) (f : FE) : FE := fun env => (f env).bind fun d => match tyN d with
  | some n => .ret (.bool (isiB n T))
  | none => .fail
theorem tyN_in {K : PySem.W.Frag} {ω : Option Om} {N : Addr → Prop} {H : Hp} {v : V} {d : D} {n : String} (h : InB K ω N H v d) (e : tyN d = some n) : TyX K H v (.type n) ∧ n ∈ tyNames := by
  have sq : ∀ {a : Addr} {xs : List V}, SqT K H a xs → TyX K H (.ref a) (.type "tuple") := fun {a xs} hs => by
    rcases hs with (hs | ⟨o, hs⟩) | ⟨o, its, m, hs, hc, _⟩
    · exact .base (.tup hs)
    · exact .fTuple hs
    · exact .kTuple hs hc
  cases d with
  | none => cases e; cases h.none; exact ⟨.base .non, by decide⟩
  | bool b => cases e; cases h.bool; exact ⟨.base (.bl b), by decide⟩
  | int i => cases e; cases h.int; exact ⟨.base (.int i), by decide⟩
  | str x => cases e; cases h.str; exact ⟨.base (.str x), by decide⟩
  | list ds => cases e; obtain ⟨a, xs, rfl, ha, _⟩ := h.list; exact ⟨.base (.lst ha), by decide⟩
  | tuple ds => cases e; obtain ⟨a, xs, rfl, ha, _⟩ := h.tuple; exact ⟨sq ha, by decide⟩
  | dict es =>
    have en : n = "dict" ∧ ∀ x r, es ≠ (.none, x) :: r := by
      unfold tyN at e
      split at e
      · cases e
      · rename_i hne
        cases e
        refine ⟨rfl, fun x r z => ?_⟩
        subst z
        rename_i hq
        first | exact hne _ _ rfl | exact hq _ _ rfl | (cases hne; exact hq _ _ rfl)
      · rename_i hq hr
        exact absurd rfl (hr es)
    obtain ⟨rfl, hne⟩ := en
    refine ⟨?_, by decide⟩
    rcases h with h | ⟨a, rfl, _, kvs, ha, _⟩
    · generalize ed : PyData.dict es = d at h
      cases h <;> first | (cases ed; done) | skip
      · unfold scrD at ed
        cases ed
        exact absurd rfl (hne _ _)
      · rename_i hh _
        exact .base (.dK hh)
      · rename_i hh _
        exact .base (.dT hh)
    · exact .base (.dK ha)
theorem xe_isi {X : Cx} {e : Expr} {T : String} {f : FE} (hT : ∀ n ∈ tyNames, kitB n T = some (isiB n T)) (h : PE X e (tCB (rIsi X.K) (tCons (tX X.K .b f) (tCons (tC (.ty T)) tNil)))) : XE X .v e (eIsi T f) := weak h fun σ H Q ⟨ω, N, E, b, env, r, q⟩ => by
  refine ⟨ω, N, E, b, env, r, Tr.All_mono ((Tr.All_bind _ _ _ _).mp q) fun d c qa v H1 k1 o1 i1 => ?_⟩
  cases en : tyN d with
  | none => simp only [en] at qa; exact qa.elim
  | some n =>
    simp only [en] at qa
    obtain ⟨ty, hm⟩ := tyN_in i1 en
    exact ⟨v, .ty T, .type n, .type T, isiB n T, rfl, .ty T, ty, kit_ty (hT n hm), qa _ H1 k1 o1 (.bl _)⟩
example : ∀ n ∈ tyNames, kitB n "int" = some (isiB n "int") := by decide +kernel
example : ∀ n ∈ tyNames, kitB n "bool" = some (isiB n "bool") := by decide +kernel
example : ∀ n ∈ tyNames, kitB n "tuple" = some (isiB n "tuple") := by decide +kernel
end DL
end
section
set_option linter.all false
set_option maxRecDepth 100000
namespace DL
open PySem PySem.Spec PyProof.Rows L2
/-! ### the law called behind the top, by a promise of the kind FnG -/
section
variable {P : Program} {w : World} {K : PySem.W.Frag} {mg mb : Str → Option Value} {k : Nat} {fa a : Addr} {fd : FuncData} {x : Str} {sp : Sp} {st : Shared} {vs : List Value} {ns : List Int}
/-- all that is tracked is a list that the written part does not know, and that stays -/
def Froz (K : PySem.W.Frag) (h : Heap) (H : Hp) : Prop := ∀ b u, H b = some u → ∃ (ob : Obj) (xs : List V) (its : Array Value) (n : Nat), u = .frz ob (.lst xs) ∧ h.get? b = some ob ∧ ob.data = .seq its n ∧ K.lookup b = none
theorem top_run (kin : K.In st.heap) (globs : st.heap.Ns mainGlobals mg) (blts : st.heap.Ns builtinsNs mb) (isBoot : ∀ y : Str, y ≠ "__name__" → mb y = bootBuiltins y) (unl : st.heap.NoLimit) (nog : st.gens = #[]) (hr : Room k callerA)
    (G : ∀ base : Heap, K.In base → base.Ns mainGlobals mg → FnG P w K mg base k fa fd [x] sp) (bnd : ∀ (s : Shared) (u : Value), BindsTo s fd ⟨[u], []⟩ [(x, u)])
    (H : Hp) (fz : Froz K st.heap H) (ok : HOk P w H st.heap) (want : sp [.ref a] H (fun v _ => v = .bl true) E0) :
    codeAny (model P w) callerA (.call (.ref fa) ⟨[.ref a], []⟩) (fun r s' => r = .ok (.ret (.bool true)) ∧ OldK st.heap s'.heap ∧ s'.os = st.os ∧ AllBare s'.gens) st := by
  have free : ∀ {b : Addr} {o : Obj} {es : Array DictEntry} {ep : Nat}, st.heap.get? b = some o → o.data = .dict es ep → H b = none := fun {b o es ep} hb hd => by
    match hq : H b with
    | none => rfl
    | some u =>
      obtain ⟨ob, xs, its, n, _, h1, h2, _⟩ := fz b u hq
      rw [hb] at h1
      cases h1
      rw [hd] at h2
      cases h2
  have toBase : ∀ {L : Addr} {m : Str → Option Value}, st.heap.Ns L m → (hidT st.heap H).Ns L m := fun ⟨o, es, ep, h1, h2, h3⟩ => ⟨o, es, ep, hidT_get h1 (free h1 h2), h2, h3⟩
  have kb : K.In (hidT st.heap H) := fun b o hb => hidT_get (kin b o hb) (by
    match hq : H b with
    | none => rfl
    | some u =>
      obtain ⟨_, _, _, _, _, _, _, h3⟩ := fz b u hq
      rw [h3] at hb
      cases hb)
  have md : Mod K mg (hidT st.heap H) := {
    kin := kb
    glob := toBase globs
    blt := ⟨mb, toBase blts, isBoot⟩
    nolimit := by
      obtain ⟨m, h1, h2⟩ := unl
      exact ⟨m, toBase h1, h2⟩ }
  have en : Env0 P w K mg (hidT st.heap H) callerA [] st H := {
    frames := rfl
    mod := md
    bs := fun _ _ h => of_hidT h
    bsz := Nat.le_of_eq (hidT_size _ _)
    funs := trivial
    frf := fun b hb => nomatch (show b ∈ ([] : List Addr) from hb)
    hok := ok
    bare := .of_eq nog }
  refine codeAny_mono ((G _ kb (toBase globs)).go (us := [.ref a]) (vs := [.ref a]) rfl hr en (bnd st (.ref a)) (.cons rfl .nil) want) fun out s2 fin => ?_
  match out, fin with
  | .ok (.ret u), fin =>
    obtain ⟨v, H2, h1, h2, un, ok2, rv, q⟩ := fin
    have q : v = .bl true := q
    subst q
    cases (show u = Value.bool true from rv)
    refine ⟨rfl, OldK.of_keep fun b o hb => ?_, h1, h2⟩
    match hq : H b with
    | none => exact un.keep b o hb hq (fun z => nomatch (show b ∈ ([] : List Addr) from z)) (fun z => nomatch z)
    | some u =>
      obtain ⟨ob, xs, _, _, rfl, h3, _, _⟩ := fz b u hq
      rw [hb] at h3
      cases h3
      exact (ok2 b _ (un.frzs b o _ hq)).1
/-- the goal that the head leaves, by the promise of the law's def -/
theorem walk_G {l : PySem.W.OpenLaw} {n : Nat} {q : Program} {loose : List Str} {XP : (Str → Option Value) → Heap → Prop} {YP : World → Heap → Prop} {d : DefRec} {Kf : Params → PySem.W.Frag} {y : Str}
    (hn : l.most = some n) (hn2 : n ≤ sizeLine) (hdf : d.params.defaults = []) (hr : Room k callerA) (hY : ∀ (w : World) (h : Heap), YP w h → (Kf w.params).In h) {spL : PySem.W.Frag → Sp}
    (F : ∀ (w : World) (mg : Str → Option Value) (fa : Addr) (h : Heap), (Kf w.params).In h → h.Ns mainGlobals mg → mg d.name = some (.ref fa) →
      ∃ fd : FuncData, (∀ (s : Shared) (u : Value), BindsTo s fd ⟨[u], []⟩ [(y, u)]) ∧ ∀ base : Heap, (Kf w.params).In base → base.Ns mainGlobals mg → FnG l.prog w (Kf w.params) mg base k fa fd [y] (spL (Kf w.params)))
    (hsp : ∀ (K : PySem.W.Frag) (H : Hp) (a : Addr) (ns : List Int), ns.length ≤ n → (∀ z ∈ ns, Builtin.Int.intBits z ≤ 1048576) → SqS K (fun _ => False) H a (ns.map V.int) → spL K [.ref a] H (fun v _ => v = .bl true) E0) :
    PySem.W.WalkO q loose XP YP l.row.toRowW d [] (fun f vs => PySem.call f vs) := by
  refine Att.attach_callB hn hdf fun w s0 st mg mb fa o pm cd doc a vs ns G Y _ _ _ hmg hobj hi hlen hbits nog => ?_
  have kin := hY w _ Y
  obtain ⟨fd, bnd, hF⟩ := F w mg fa _ kin G.T.g hmg
  have rv := vals_ints hi
  have hsz : (ns.map V.int).length ≤ sizeLine := by rw [List.length_map]; omega
  match hk : (Kf w.params).lookup a with
  | some ob =>
    have hob := kin a ob hk
    rw [hobj] at hob
    cases hob
    refine top_run kin G.T.g G.T.b G.T.builtins G.T.nolimit nog hr hF bnd (fun _ => none) (fun b u z => nomatch (show (none : Option HO) = some u from z)) (fun b u z => nomatch (show (none : Option HO) = some u from z)) (hsp _ _ a ns hlen hbits (.inr ⟨_, vs.toArray, _, hk, rfl, rfl, rfl, ?_, by simpa using rv⟩))
    rw [List.size_toArray, hi.length]
    omega
  | none =>
    let H : Hp := fun b => if b = a then some (.frz { cls := .type "list", data := .seq vs.toArray } (.lst (ns.map V.int))) else none
    have here : H a = some (.frz { cls := .type "list", data := .seq vs.toArray } (.lst (ns.map V.int))) := if_pos rfl
    have only : ∀ b u, H b = some u → b = a ∧ u = .frz { cls := .type "list", data := .seq vs.toArray } (.lst (ns.map V.int)) := fun b u z => by
      by_cases e : b = a
      · subst e
        rw [here] at z
        cases z
        exact ⟨rfl, rfl⟩
      · have z' : (if b = a then some _ else none : Option HO) = some u := z
        rw [if_neg e] at z'
        cases z'
    refine top_run kin G.T.g G.T.b G.T.builtins G.T.nolimit nog hr hF bnd H (fun b u z => ?_) (fun b u z => ?_) (hsp _ _ a ns hlen hbits (.inl ⟨id, _, here⟩))
    · obtain ⟨rfl, rfl⟩ := only b u z
      exact ⟨_, _, vs.toArray, 0, rfl, hobj, rfl, hk⟩
    · obtain ⟨rfl, rfl⟩ := only b u z
      exact ⟨hobj, hsz, vs, 0, rv, hobj⟩
end
end DL
end
section
set_option linter.all false
set_option maxRecDepth 100000
namespace DL
open PySem PySem.Spec PyProof.Rows L2
section
variable {P : Program} {w : World} {K : PySem.W.Frag} {mg : Str → Option Value} {base : Heap}
theorem dMul_l {i j : Int} (h : -(2 ^ 64) < i ∧ i < 2 ^ 64) : dMul (.int i) (.int j) = some (.int (i * j)) := if_pos (.inl h)
theorem dMul_r {i j : Int} (h : -(2 ^ 64) < j ∧ j < 2 ^ 64) : dMul (.int i) (.int j) = some (.int (i * j)) := if_pos (.inr h)
theorem dMod_p {i j : Int} (h : 0 < j) : dMod (.int i) (.int j) = some (.int (i % j)) := if_pos h
theorem dDiv_p {i j : Int} (h : 0 < j ∧ j < 1073741824) : dDiv (.int i) (.int j) = some (.int (i / j)) := if_pos h
theorem dAddA_i {i j : Int} : dAddA (.int i) (.int j) = some (.int (i + j)) := rfl
theorem at_intsD (xs : List Int) {i : Int} (h0 : 0 ≤ i) (h1 : i < xs.length) : ∃ x, atI (xs.map PyData.int) i = some (.int x) ∧ x ∈ xs := by
  obtain ⟨j, rfl⟩ := Int.eq_ofNat_of_zero_le h0
  have hj : j < xs.length := by omega
  refine ⟨xs[j], atI_nat ?_, List.getElem_mem hj⟩
  rw [List.getElem?_map, List.getElem?_eq_getElem hj]
  rfl
theorem ixN_ok {n : Nat} {i : Int} (h0 : 0 ≤ i) (h1 : i < n) : ixN n i = some i.toNat := by
  unfold ixN
  rw [if_pos h0, if_pos h1]
def Cells (xs : List Int) : Prop := xs.length = 64 ∧ ∀ x ∈ xs, 0 ≤ x ∧ x < 2147483647
theorem Cells.set {xs : List Int} (h : Cells xs) (j : Nat) (z : Int) : Cells (xs.set j (z % 2147483647)) := by
  refine ⟨by rw [List.length_set]; exact h.1, fun y hy => ?_⟩
  rcases List.mem_or_eq_of_mem_set hy with hy | rfl
  · exact h.2 y hy
  · exact ⟨Int.emod_nonneg _ (by decide), Int.emod_lt_of_pos _ (by decide)⟩
def FI (S : D) (env : Ev) : Prop := ∃ cells d2 d3, env = [some (.val S), some (.own (.list (cells.map PyData.int))), d2, d3] ∧ Cells cells
theorem pairs_ints : ∀ (ns : List Int) (i : Nat), ∀ d ∈ pairsFrom i (ns.map PyData.int), ∃ k z : Int, 0 ≤ k ∧ d = .tuple [.int k, .int z]
  | [], _, d, h => nomatch h
  | n :: ns, i, d, h => by
    rw [List.map_cons, pairsFrom] at h
    rcases List.mem_cons.mp h with rfl | h
    · exact ⟨i, n, by omega, rfl⟩
    · exact pairs_ints ns (i + 1) d h
def first64 : List Int := (List.range 64).map fun (n : Nat) => 17 + (n : Int)
theorem first_cells : Cells first64 := by
  refine ⟨by unfold first64; rw [List.length_map, List.length_range], fun x hx => ?_⟩
  obtain ⟨n, hn, rfl⟩ := List.mem_map.mp hx
  have := List.mem_range.mp hn
  omega
theorem at_ints (xs : List Int) {i : Int} (h0 : 0 ≤ i) (h1 : i < xs.length) : ∃ x, atI (xs.map V.int) i = some (V.int x) ∧ x ∈ xs := by
  obtain ⟨j, rfl⟩ := Int.eq_ofNat_of_zero_le h0
  have hj : j < xs.length := by omega
  refine ⟨xs[j], atI_nat ?_, List.getElem_mem hj⟩
  rw [List.getElem?_map, List.getElem?_eq_getElem hj]
  rfl
theorem dp_ints {H : Hp} : ∀ xs : List Int, DpAll K H (xs.map V.int) (xs.map PyData.int)
  | [] => .nil
  | x :: xs => .cons (.int x) (dp_ints xs)
theorem canLay_ints : ∀ xs : List Int, PyData.canLayAll0 (xs.map PyData.int) = true
  | [] => rfl
  | x :: xs => by
    rw [List.map_cons, PyData.canLayAll0, canLay_ints xs]
    rfl
theorem depth_ints : ∀ xs : List Int, PyData.depthAll (xs.map PyData.int) = 0
  | [] => rfl
  | x :: xs => by
    rw [List.map_cons, PyData.depthAll, depth_ints xs]
    rfl
theorem shaped_ints (xs : List Int) : SeqAt.shaped (.list (xs.map PyData.int)) = true := by
  unfold SeqAt.shaped
  rw [PyData.canLay0, canLay_ints, PyData.depth, depth_ints]
  rfl
def bigs (ns : List Int) : List Int := ns.map fun z => if 10 ^ 18 ≤ z then z else 0
theorem in_ints {N : Addr → Prop} {H : Hp} : ∀ xs : List Int, InAll K N H (xs.map V.int) (xs.map PyData.int)
  | [] => .nil
  | x :: xs => .cons (.int x) (in_ints xs)
theorem ints_in {N : Addr → Prop} {H : Hp} {vs : List V} : ∀ {xs : List Int}, InAll K N H vs (xs.map PyData.int) → vs = xs.map V.int := fun {xs} => by
  induction xs generalizing vs with
  | nil => intro h; cases h; rfl
  | cons x xs ih =>
    intro h
    cases h with
    | cons h t =>
      rw [ih t, In.int_inv h]
      rfl
theorem resl {ω : Option Om} {N : Addr → Prop} {E H : Hp} {b : Nat} {env : Ev} {σ σ' : L2.St} (r : RepE K ω N E H b env σ) (hl : σ'.length = σ.length) (h : ∀ (i : Nat) (s : DL.Slot), env[i]? = some (some s) → σ'[i]? = σ[i]?) : RepE K ω N E H b env σ' where
  len := by rw [hl]; exact r.len
  slot := fun i s e => by rw [h i s e]; exact r.slot i s e
  sep := fun i j di dj a n e1 e2 s1 s2 => r.sep i j di dj a n e1 e2 (by rw [← h i _ e1]; exact s1) (by rw [← h j _ e2]; exact s2)
  dom := r.dom
  om := r.om
  orc := r.orc
  keep := r.keep
theorem big_bound {ns : List Int} (hb : ∀ z ∈ ns, z.natAbs < 2 ^ 1048577) : ∀ x ∈ bigs ns, 0 ≤ x ∧ x.natAbs < 2 ^ 1048577 := fun x hx => by
  unfold bigs at hx
  obtain ⟨z, hz, rfl⟩ := List.mem_map.mp hx
  by_cases h : (10 ^ 18 : Int) ≤ z
  · rw [if_pos h]
    exact ⟨by omega, hb z hz⟩
  · rw [if_neg h]
    exact ⟨Int.le_refl _, Nat.two_pow_pos _⟩
theorem tX_ret {kd : Kd} {f : FE} {σ : L2.St} {H E : Hp} {Q : VK} {ω : Option Om} {N : Addr → Prop} {b : Nat} {env : Ev} {d : D} (r : RepE K ω N E H b env σ) (e : f env = .ret d) (h : ∀ v H', Keep ω H H' → OrcO ω b H' → RK K ω N H H' kd v d → Q v H') : tX K kd f σ H Q :=
  ⟨ω, N, E, b, env, r, by rw [e]; exact h⟩
theorem call1 {F : List Slot → Tr D} {d : D} {env : Ev} : eCall F (aVal (eVar 0) aNil) (some (.val d) :: env) = F [.val d] := rfl
theorem start3 {d : D} : startE 3 [.val d] = [some (.val d), none, none] := rfl
theorem seqAsg {te : TE} {i : Nat} {u : TS} {D : Ends} {σ : L2.St} {H : Hp} (h : te σ H fun x H1 => u D (σ.set i (some x)) H1) : tSeq (tAsg te (gName i)) u D σ H := h
theorem seqPut {td ty tv : TE} {u : TS} {D : Ends} {σ : L2.St} {H : Hp} (h : tv σ H fun v H1 => td σ H1 fun x H2 => ty σ H2 fun y H3 => ∃ a H4, x = .ref a ∧ DPut H3 a y v H4 ∧ u D σ H4) : tSeq (sDPut td ty tv) u D σ H := h
theorem disp3 {a b c : Str} {t1 t2 t3 : TE} {σ : L2.St} {H : Hp} {Q : VK} (h : ∀ p, H p = none → t1 σ (upd H p (.dK [])) fun v1 H1 => t2 σ H1 fun v2 H2 => t3 σ H2 fun v3 H3 => H3 p = some (.dK []) ∧
    ∃ kvs : List (Key × V), [(V.str a, v1), (V.str b, v2), (V.str c, v3)] = kvs.map (fun kv => (kV kv.1, kv.2)) ∧ kvs.length ≤ 15 ∧ Q (.ref p) (upd H3 p (.dK (mergeK [] kvs)))) :
    tDisp [(tC (.str a), t1), (tC (.str b), t2), (tC (.str c), t3)] σ H Q := h
def rTupOf (K : PySem.W.Frag) : List V → Hp → VK → Prop := rTupF K
theorem c_tupOf {X : Cx} : CallR X (.type "tuple") (rTupOf X.K) := call_tupF
def putPts : Nat → List Int → List (List Int) → List (List Int)
  | _, [], cs => cs
  | p, x :: xs, cs => putPts (p + 1) xs (cs.set x.toNat (cs.getD x.toNat [] ++ [(p : Int)]))
def fPieces : List Slot → Tr D
  | [.val (.tuple ds)] => match dNums ds with
    | some (n :: ns) => if (∀ x ∈ n :: ns, 0 ≤ x ∧ x < 1000) ∧ (n :: ns).length ≤ 1000 then .ret (.tuple ((putPts 0 (n :: ns) (List.replicate (maxI n ns + 1).toNat [])).map fun c => .tuple (c.map PyData.int))) else .fail
    | _ => .fail
  | _ => .fail
theorem sqT_same {H H' : Hp} {a : Addr} {xs : List V} (s : Same H H') (h : SqT K H a xs) : SqT K H' a xs := by
  rcases h with (h | ⟨o, h⟩) | h
  · exact .inl (.inl (s _ _ h))
  · exact .inl (.inr ⟨o, s _ _ h⟩)
  · exact .inr h
def Mk (H1 : Hp) (Pd : Addr) (i : Nat) (H' : Hp) : Prop := ∃ ls : List Addr, ls.length = i ∧ H' Pd = some (.lst (ls.map V.ref)) ∧ (∀ l ∈ ls, H' l = some (.lst []) ∧ l ≠ Pd ∧ H1 l = none) ∧ ls.Nodup ∧ Same H1 H'
theorem Mk.step {H1 H' : Hp} {Pd p : Addr} {i : Nat} {ls : List Addr} (h1 : ls.length = i) (h2 : H' Pd = some (.lst (ls.map V.ref))) (h3 : ∀ l ∈ ls, H' l = some (.lst []) ∧ l ≠ Pd ∧ H1 l = none) (h4 : ls.Nodup) (h5 : Same H1 H') (hP : H1 Pd = none) (hp : H' p = none) :
    Mk H1 Pd (i + 1) (upd (upd H' p (.lst [])) Pd (.lst (ls.map V.ref ++ [.ref p]))) := by
  have np : p ≠ Pd := fun e => by rw [e, h2] at hp; cases hp
  have n1 : H1 p = none := by
    cases e : H1 p with
    | none => rfl
    | some o => rw [h5 _ _ e] at hp; cases hp
  refine ⟨ls ++ [p], by simp [h1], by rw [upd_same, List.map_append]; rfl, fun l hl => ?_, ?_, fun x o e => ?_⟩
  · rcases List.mem_append.mp hl with hl | hl
    · obtain ⟨a1, a2, a3⟩ := h3 l hl
      refine ⟨?_, a2, a3⟩
      rw [upd_ne a2, upd_ne (fun e => by rw [e, hp] at a1; cases a1)]
      exact a1
    · have e : l = p := by simpa using hl
      subst e
      exact ⟨by rw [upd_ne np, upd_same], np, n1⟩
  · refine List.nodup_append.mpr ⟨h4, by simp, fun x hx y hy => ?_⟩
    have e : y = p := by simpa using hy
    subst e
    intro e
    subst e
    rw [(h3 x hx).1] at hp
    cases hp
  · have nx : x ≠ Pd := fun z => by rw [z, hP] at e; cases e
    rw [upd_ne nx]
    have := h5 _ _ e
    rw [upd_ne (fun z => by rw [z, hp] at this; cases this)]
    exact this
theorem nodup_inj : ∀ {ls : List Addr}, ls.Nodup → ∀ {j k : Nat} {x : Addr}, ls[j]? = some x → ls[k]? = some x → j = k
  | [], _, _, _, _, h, _ => by simp at h
  | y :: ls, nd, j, k, x, h1, h2 => by
    obtain ⟨hn, ht⟩ := List.nodup_cons.mp nd
    match j, k, h1, h2 with
    | 0, 0, _, _ => rfl
    | 0, k + 1, h1, h2 =>
      have e : y = x := by simpa using h1
      subst e
      exact absurd (List.mem_of_getElem? (by simpa using h2)) hn
    | j + 1, 0, h1, h2 =>
      have e : y = x := by simpa using h2
      subst e
      exact absurd (List.mem_of_getElem? (by simpa using h1)) hn
    | j + 1, k + 1, h1, h2 => exact congrArg (· + 1) (nodup_inj ht (by simpa using h1) (by simpa using h2))
structure Pt (H1 : Hp) (Pd : Addr) (ls : List Addr) (H' : Hp) (cs : List (List Int)) : Prop where
  len : cs.length = ls.length
  top : H' Pd = some (.lst (ls.map V.ref))
  lot : ∀ (k : Nat) (l : Addr) (c : List Int), ls[k]? = some l → cs[k]? = some c → H' l = some (.lst (c.map V.int))
  sam : Same H1 H'
theorem Pt.step {H1 H' : Hp} {Pd : Addr} {ls : List Addr} {cs : List (List Int)} (h : Pt H1 Pd ls H' cs) (nd : ls.Nodup) (hn : ∀ l ∈ ls, l ≠ Pd ∧ H1 l = none) {k : Nat} {l : Addr} {c : List Int} (hl : ls[k]? = some l) (hc : cs[k]? = some c) (z : Int) {H2 : Hp} (s2 : Same H' H2) :
    Pt H1 Pd ls (upd H2 l (.lst ((c ++ [z]).map V.int))) (cs.set k (c ++ [z])) where
  len := by rw [List.length_set]; exact h.len
  top := by
    rw [upd_ne (Ne.symm (hn l (List.mem_of_getElem? hl)).1)]
    exact s2 _ _ h.top
  lot := fun j m d hm hd => by
    by_cases e : k = j
    · subst e
      rw [hl] at hm
      cases hm
      have hk : k < cs.length := (List.getElem?_eq_some_iff.mp hc).1
      rw [List.getElem?_set_self hk] at hd
      cases hd
      exact upd_same
    · rw [List.getElem?_set_ne e] at hd
      have nm : m ≠ l := fun z => by
        subst z
        exact e (nodup_inj nd hl hm)
      rw [upd_ne nm]
      exact s2 _ _ (h.lot j m d hm hd)
  sam := fun x o e => by
    rw [upd_ne (fun z => by rw [z, (hn l (List.mem_of_getElem? hl)).2] at e; cases e)]
    exact s2 _ _ (h.sam _ _ e)
theorem tYes_if {σ : L2.St} {H : Hp} {F G : Hp → Prop} (h : F H) : tYes σ H (fun b H3 => if b = true then F H3 else G H3) := by
  show (if true = true then F H else G H)
  rw [if_pos rfl]
  exact h
def Tp (H2 : Hp) (D2 : Addr) (cs : List (List Int)) (i : Nat) (H' : Hp) : Prop := ∃ ts : List Addr, ts.length = i ∧ H' D2 = some (.lst (ts.map V.ref)) ∧ (∀ (k : Nat) (t : Addr) (c : List Int), ts[k]? = some t → cs[k]? = some c → TupO H' t (c.map V.int)) ∧ (∀ t ∈ ts, t ≠ D2 ∧ H2 t = none) ∧ Same H2 H'
theorem Tp.step {H2 H' : Hp} {D2 t : Addr} {cs : List (List Int)} {i : Nat} {ts : List Addr} {c : List Int} (h1 : ts.length = i) (h2 : H' D2 = some (.lst (ts.map V.ref))) (h3 : ∀ (k : Nat) (t : Addr) (c : List Int), ts[k]? = some t → cs[k]? = some c → TupO H' t (c.map V.int)) (h4 : ∀ t ∈ ts, t ≠ D2 ∧ H2 t = none) (h5 : Same H2 H') (hD : H2 D2 = none) (ht : H' t = none) (hc : cs[i]? = some c) {ob : Obj} (od : ob.dict = none) :
    Tp H2 D2 cs (i + 1) (upd (upd H' t (.frz ob (.tup (c.map V.int)))) D2 (.lst (ts.map V.ref ++ [.ref t]))) := by
  have nt : t ≠ D2 := fun e => by rw [e, h2] at ht; cases ht
  have n1 : H2 t = none := by
    cases e : H2 t with
    | none => rfl
    | some o => rw [h5 _ _ e] at ht; cases ht
  refine ⟨ts ++ [t], by simp [h1], by rw [upd_same, List.map_append]; rfl, fun k u d hu hd => ?_, fun u hu => ?_, fun x o e => ?_⟩
  · by_cases hk : k < ts.length
    · rw [List.getElem?_append_left hk] at hu
      obtain ⟨ob2, this, z2⟩ := h3 k u d hu hd
      refine ⟨ob2, ?_, z2⟩
      rw [upd_ne (h4 u (List.mem_of_getElem? hu)).1, upd_ne (fun e => by rw [e, ht] at this; cases this)]
      exact this
    · have hk2 : k < (ts ++ [t]).length := (List.getElem?_eq_some_iff.mp hu).1
      rw [List.length_append] at hk2
      have ek : k = ts.length := by simp at hk2; omega
      subst ek
      have eu : t = u := by simpa using hu
      subst eu
      rw [h1, hc] at hd
      cases hd
      exact ⟨ob, by rw [upd_ne nt, upd_same], od⟩
  · rcases List.mem_append.mp hu with hu | hu
    · exact h4 u hu
    · have e : u = t := by simpa using hu
      subst e
      exact ⟨nt, n1⟩
  · rw [upd_ne (fun z => by rw [z, hD] at e; cases e)]
    have := h5 _ _ e
    rw [upd_ne (fun z => by rw [z, ht] at this; cases this)]
    exact this
theorem inAll_of {N : Addr → Prop} {H : Hp} : ∀ {ts : List Addr} {cs : List (List Int)}, ts.length = cs.length → (∀ (k : Nat) (t : Addr) (c : List Int), ts[k]? = some t → cs[k]? = some c → ¬ N t ∧ TupO H t (c.map V.int)) → InAll K N H (ts.map V.ref) (cs.map fun c => .tuple (c.map PyData.int))
  | [], [], _, _ => .nil
  | t :: ts, c :: cs, hl, h => by
    obtain ⟨a1, a2⟩ := h 0 t c rfl rfl
    exact .cons (.tup a1 a2 (in_ints c)) (inAll_of (by simpa using hl) fun k t c h1 h2 => h (k + 1) t c (by simpa using h1) (by simpa using h2))
  | [], _ :: _, hl, _ => by simp at hl
  | _ :: _, [], hl, _ => by simp at hl
end
end DL
end
section
set_option linter.all false
set_option maxRecDepth 100000
namespace DL
open PySem PySem.Spec PyProof.Rows L2
/-! ### list(range(a, b)) -/
def dRgL : D → D → Option D
  | .int i, .int j => if ok62 i = true ∧ ok62 j = true ∧ (j - i).toNat ≤ 16777216 then some (.list (rngD i (j - i).toNat)) else none
  | _, _ => none
theorem xe_rgL2 {X : Cx} {e : Expr} {fa fb : FE} (h : PE X e (tLstRg (tRg2 (tX X.K .b fa) (tX X.K .b fb)))) : XE X .o e (e2 dRgL fa fb) := weak h fun σ H Q ⟨ω, N, E, b, env, r, q⟩ => by
  refine ⟨ω, N, E, b, env, r, Tr.All_mono ((Tr.All_bind _ _ _ _).mp q) fun d c qa v H1 k1 o1 i1 => ?_⟩
  refine ⟨ω, N, E, c, env, r.move k1 o1, Tr.All_mono ((Tr.All_bind _ _ _ _).mp qa) fun d2 c2 qb u H2 k2 o2 i2 => ?_⟩
  have i1 : InB X.K ω N H1 v d := i1
  have i2 : InB X.K ω N H2 u d2 := i2
  cases d with
  | int i =>
    cases d2 with
    | int j =>
      cases i1.int
      cases i2.int
      simp only [dRgL] at qb
      split at qb
      · rename_i hz
        have h1 := of_decide_eq_true hz.1
        have h2 := of_decide_eq_true hz.2.1
        refine ⟨i, j, rfl, rfl, ⟨h1.1, h1.2, h2.1, h2.2, hz.2.2⟩, fun p hp => qb _ _ ((k1.trans k2).trans (Keep.of (same_new hp))) (o2.same (same_new hp)) ?_⟩
        exact RK.back (ω := ω) k1 o1 (RK.back (ω := ω) k2 o2 (RK.newLst (rgV_in i j) hp))
      · exact qb.elim
    | _ => exact qb.elim
  | _ => exact qb.elim
/-! ### calls by keywords in any order -/
def reo {α : Type} (n : Nat) (idx : List Nat) (d : α) (xs : List α) : List α := if xs.length = n then idx.map fun i => xs.getD i d else []
theorem paired_getD {α β : Type} {F : α → β → Prop} {a : α} {b : β} (h0 : F a b) : ∀ {xs : List α} {ys : List β} (i : Nat), Paired F xs ys → F (xs.getD i a) (ys.getD i b)
  | _, _, _, .nil => by simpa using h0
  | _, _, 0, .cons h _ => by simpa using h
  | _, _, i + 1, .cons _ t => by simpa using paired_getD h0 i t
theorem paired_reo {α β : Type} {F : α → β → Prop} {a : α} {b : β} (h0 : F a b) {n : Nat} {idx : List Nat} {xs : List α} {ys : List β} (h : Paired F xs ys) : Paired F (reo n idx a xs) (reo n idx b ys) := by
  unfold reo
  rw [Paired.length h]
  split
  · induction idx with
    | nil => exact .nil
    | cons i idx ih => exact .cons (paired_getD h0 i h) ih
  · exact .nil
def aReo (n : Nat) (idx : List Nat) (r : FA) : FA := fun env => (r env).bind fun ss => .ret (reo n idx (.val .none) ss)
theorem xe_callKP {X : Cx} {pos p : Pos} {x : Str} {j n : Nat} {idx : List Nat} {ps ks : List Str} {F : List Slot → Tr D} {k : Kd} {r : FA} {kws : List Keyword} (C : CalK X.prog X.w X.K X.mg X.base x j ps (reo n idx .none) (reo n idx .non) (spD X.K k n F) ks) (hr : Room j X.A) (hgd : X.A.guards = some []) (hg : Gl X x) (hkw : PK X kws (tAs X.K r)) (hn : ArgN r n) (hi : idx.length = n)
    (hall : (backToKw pos (keywordEach kws X.env)).all (·.1.isSome) = true := by rfl) (hks : (backToKw pos (keywordEach kws X.env)).filterMap (·.1) = ks := by rfl) (hdb : (x == ("__debug__" : Str)) = false := by decide)
    (hpl : ((backTo pos (starEach [] X.env)).any (·.1) || (backToKw pos (keywordEach kws X.env)).any (·.1.isNone)) = false := by rfl) : XE X k (.Call (.Name x p) [] kws pos) (eCall F (aReo n idx r)) :=
  weak (pe_callGK C hr hgd hg hkw hall hks hdb hpl) fun σ H Q ⟨ω, N, E, b, env, rr, q⟩ => by
  refine ⟨ω, N, E, b, env, rr, Tr.All_mono (hn _ _ _ ((Tr.All_bind _ _ _ _).mp ((Tr.All_bind _ _ _ _).mp q))) fun ss c ⟨hl, qa⟩ vs H1 k1 o1 i1 => ?_⟩
  refine ⟨ω, N, c, reo n idx (.val .none) ss, ?_, rr.om, (rr.move k1 o1).dom, o1, paired_reo (show SlotA X.K ω N H1 (.val .none) .non from In.non) i1, Tr.All_mono qa fun d c2 qb v H2 k2 o2 i2 => qb v H2 (k1.trans k2) o2 (RK.back k1 o1 i2)⟩
  unfold reo
  rw [if_pos hl, List.length_map, hi]
end DL
end
section
set_option linter.all false
set_option maxRecDepth 100000
namespace DL
open PySem PySem.Spec PyProof.Rows L2
/-! ### xs.count(y) of a list of flat things -/
def rCnt (K : PySem.W.Frag) : V → List V → Hp → VK → Prop := fun x xs H Q => ∃ (a : Addr) (ys : List V) (y : V), x = .ref a ∧ xs = [y] ∧ SqL K H a ys ∧ flatV y = true ∧ ys.all flatV = true ∧ Q (.int (ys.countP fun z => eqV z y : Nat)) H
theorem count_eqU {y : V} : ∀ {ys : List V} {us : List Value}, Vals ys us → ys.all flatV = true → us.countP (eqU y) = ys.countP fun z => eqV z y
  | _, _, .nil, _ => rfl
  | z :: ys, u :: us, .cons r t, f => by
    have f' : flatV z = true ∧ ys.all flatV = true := by simpa using f
    rw [List.countP_cons, List.countP_cons, count_eqU t f'.2, eqU_of r f'.1]
theorem mt_count {X : Cx} : MtR X "list.count" (rCnt X.K) := by
  intro pns sA τ HA x xs v us R IA rx rxs h
  obtain ⟨a, ys, y, rfl, rfl, hs, fy, fys, q⟩ := h
  cases rx
  cases rxs with
  | cons ry rt =>
    rename_i uy ut
    cases rt
    obtain ⟨itz, rV, ⟨⟨cls, dd, data, sl⟩, n, hO, hC, hDn, hD⟩, hL⟩ := IA.list hs
    simp only at hC hD
    subst hC hD
    refine call_meets PySem.F.slot_list_count ⟨_, hO, rfl⟩ PySem.F.entry_list_count (PySem.F.args_list_count_2 _ _)
      (SeqAt.list_countAt a itz.toArray n dd sl uy (eqU y)) ⟨hO, fun u' hu' => mem_eqAt ry fy rV fys u' (by simpa using hu'), ?_⟩
    have e : itz.toArray.toList.countP (eqU y) = ys.countP fun z => eqV z y := by
      show itz.countP (eqU y) = _
      exact count_eqU rV fys
    rw [e]
    exact ⟨.int (ys.countP fun z => eqV z y : Nat), HA, IA.tok _, ⟨_, rfl⟩, q⟩
def dCnt : D → D → Option D
  | .list ds, y => if flatD y = true ∧ ds.all flatD = true then some (.int (ds.countP fun z => PyData.eqv z y : Nat)) else none
  | _, _ => none
def eCnt (f fy : FE) : FE := fun env => (f env).bind fun d => match d with
  | .list ds => (fy env).bind fun y => Tr.ofOpt (dCnt (.list ds) y)
  | _ => .fail
theorem count_in {K : PySem.W.Frag} {N : Addr → Prop} {H : Hp} {v : V} {d : D} (h : In K N H v d) (f : flatD d = true) : ∀ {vs : List V} {ds : List D}, InAll K N H vs ds → ds.all flatD = true → (vs.countP fun z => eqV z v) = ds.countP fun z => PyData.eqv z d
  | _, _, .nil, _ => rfl
  | _, _, @InAll.cons _ _ _ w ws e es hw t, g => by
    have g' : flatD e = true ∧ es.all flatD = true := by simpa using g
    rw [List.countP_cons, List.countP_cons, count_in h f t g'.2, eqV_in hw h g'.1 f]
theorem xe_cnt {X : Cx} {e : Expr} {f fy : FE} (h : PE X e (tBM X.K "list" (rCnt X.K) (tX X.K .b f) (tCons (tX X.K .b fy) tNil))) : XE X .v e (eCnt f fy) := weak h fun σ H Q ⟨ω, N, E, b, env, r, q⟩ => by
  refine ⟨ω, N, E, b, env, r, Tr.All_mono ((Tr.All_bind _ _ _ _).mp q) fun d c qa v H1 k1 o1 i1 => ?_⟩
  have i1 : InB X.K ω N H1 v d := i1
  cases d with
  | list ds =>
    obtain ⟨a, xs, rfl, ha, h1, no⟩ := InB.list2 i1 r.om
    refine ⟨.inl ⟨rfl, xs, .inl (.inl ha)⟩, ω, N, E, c, env, r.move k1 o1, Tr.All_mono ((Tr.All_bind _ _ _ _).mp qa) fun y c2 qb u H2 k2 o2 i2 => ?_⟩
    have i2 : InB X.K ω N H2 u y := i2
    have h2 : InAll X.K N H2 xs ds := h1.keep r.om k2
    have ha2 := k2 _ _ ha no
    simp only [dCnt] at qb
    split at qb
    · rename_i hf
      have iy := i2.flat hf.1
      exact ⟨a, xs, u, rfl, rfl, .inl (.inl ha2), flat_in iy hf.1, flats_in h2 hf.2, qb _ H2 (k1.trans k2) o2 (by rw [count_in iy hf.1 h2 hf.2]; exact .int _)⟩
    · exact qb.elim
  | _ => exact qa.elim
end DL
end
section
set_option linter.all false
set_option maxRecDepth 100000
namespace DL
open PySem PySem.Spec PyProof.Rows L2
/-! ### a comprehension over enumerate(..) -/
def eCompE (r : FL) (tgt : FG) (t : FT) (fe : FE) (vs : List Nat) : FE := fun env => (r env).bind fun ds => match ds with
  | [d] => match itemsOf d with
    | some ds => endComp tgt t fe (wipeE env vs) (pairsFrom 0 ds)
    | none => .fail
  | _ => .fail
section
variable {X : Cx} {e : Expr}
theorem rd_compE {r : FL} {fe : FE} {g : TG} {tgt : FG} {tt : TT} {ft : FT} {vs : List Nat} (hg : OwnTg X.K g tgt vs) (htt : ∀ σ H Q, tY X.K ft σ H Q → tt σ H Q) : ∀ σ H Q, tX X.K .o (eCompE r tgt ft fe vs) σ H Q → (tLc (iEnumT X.K (tL X.K r)) g tt (tX X.K .v fe) vs) σ H Q :=
  fun σ H Q ⟨ω, N, E, b, env, rr, q⟩ => by
  refine ⟨ω, N, E, b, env, rr, Tr.All_mono ((Tr.All_bind _ _ _ _).mp q) fun ds c qa us H1 k1 o1 i1 => ?_⟩
  have r1 := rr.move k1 o1
  have core : ∀ {J : It} {zs : List D}, Src X.K N H1 J zs → (endComp tgt ft fe (wipeE env vs) zs).All c (fun d c => ∀ v H', Keep ω H H' → OrcO ω c H' → RK X.K ω N H H' .o v d → Q v H') → _ := fun {J zs} S qq =>
    comp_core2 (g := g) (tt := tt) (J := J) (ds := zs) r1 k1 (fun i H2 N' _ p dom hi => S.go i N' H2 p dom hi) (fun H2 k2 => S.stop N H2 (Pres.keep r1.om k2)) hg htt qq
  match ds, qa, i1 with
  | [d], qa, .cons i1 .nil =>
    cases d with
    | list ds =>
      have i2 := i1
      obtain ⟨a, xs, rfl, ha, h1⟩ := In.list_inv i1
      exact ⟨a, rfl, .inl ⟨xs, .inl (.inl ha), core (src_enumL h1.length i2) qa⟩⟩
    | tuple ds =>
      have i2 := i1
      obtain ⟨a, xs, rfl, ha, h1⟩ := In.tuple_inv i1
      exact ⟨a, rfl, .inr ⟨xs, ha, core (src_enumT h1.length i2) qa⟩⟩
    | dict es =>
      cases hI : itemsOf (.dict es) with
      | none => simp only [hI] at qa; exact qa.elim
      | some ds =>
        simp only [hI] at qa
        rw [items_dict hI] at i1
        have i2 := i1
        obtain ⟨a, xs, rfl, hs, h1⟩ := In.scr_inv i1
        exact ⟨a, rfl, .inl ⟨xs, hs.seq, core (src_enumS h1.length i2) qa⟩⟩
    | _ => exact qa.elim
theorem xe_compE {r : FL} {fe : FE} {g : TG} {tgt : FG} {tt : TT} {ft : FT} {vs : List Nat} (hg : OwnTg X.K g tgt vs) (htt : ∀ σ H Q, tY X.K ft σ H Q → tt σ H Q) (h : PE X e (tLc (iEnumT X.K (tL X.K r)) g tt (tX X.K .v fe) vs)) : XE X .o e (eCompE r tgt ft fe vs) := weak h (rd_compE hg htt)
end
end DL
end
section
set_option linter.all false
set_option maxRecDepth 100000
namespace DL
open PySem PySem.Spec PyProof.Rows L2
/-! ### min of one list or tuple of whole numbers -/
section
variable {X : Cx}
section
variable {prog : Program} {w : World} {A : Around} {E : Value → Shared → Prop} {s : Shared}
theorem min_intTup {l : Addr} {xs : Array (Int × Tok)} {Q : Value → Shared → Prop} (hHh : A.handled = none) (hLl : s.heap.IsTuple l (intItems xs)) (hNe : 0 < xs.size)
    (h : ∀ v h' tk, (intItems xs)[argBest (fun i j => decide (numAt xs i < numAt xs j)) (xs.size - 1)]? = some v → (∀ b o, s.heap.get? b = some o → h'.get? b = some o) → Q v { s with heap := h', toks := tk }) :
    wpAny (model prog w) A (call (.builtin "min") [.ref l]) Q E s := by
  refine call_min_walk (iter_intTup hLl fun s₂ e sTt hfp hlI => ?_)
  subst e
  refine ⟨_, _, _, _, _, _, _, rfl, Walks.tuple (A := A.in1) hHh _ l hlI (intItems xs), sTt, hfp, by simpa [intItems] using hNe, CmpOf.ints_lt (numAt xs) (fun _ _ => intItems_at), fun v h' tk hP hKk => ?_⟩
  exact h v h' tk (by simpa [intItems] using hP) (old_keptT hKk)
open HT PySem in
theorem min_rawT {l : Addr} {itz : List Value} {ns : List Int} {Q : Value → Shared → Prop} (hHh : A.handled = none) (hLl : s.heap.IsTuple l itz.toArray) (hIi : IntsAre itz ns) (hNe : 0 < ns.length)
    (h : ∀ h' tk M t', (∀ b o, s.heap.get? b = some o → h'.get? b = some o) → M ∈ ns → (∀ a, a ∈ ns → M ≤ a) → Q (.int M t') { s with heap := h', toks := tk }) : wpAny (model prog w) A (call (.builtin "min") [.ref l]) Q E s := by
  obtain ⟨xs, e⟩ := hIi.allInts.items
  have hNn : numsOf (intItems xs).toList = ns := by rw [← e]; exact hIi.numsOf
  rw [nums_intItems] at hNn
  subst hNn
  rw [e] at hLl
  have hSz : 0 < xs.size := by simpa using hNe
  refine min_intTup hHh hLl hSz fun v h' tk hVv hKk => ?_
  obtain ⟨t, rfl⟩ := intItems_at hVv
  obtain ⟨h1, h2⟩ := argBest_lt (numAt xs) (xs.size - 1)
  refine h h' tk _ t hKk ?_ fun a ha => ?_
  · rw [numAt_eq]; exact PySem.getD_mem (by rw [List.length_map, Array.length_toList]; omega)
  · obtain ⟨j, hj, rfl⟩ := mem_getD ha
    rw [List.length_map, Array.length_toList] at hj
    rw [← numAt_eq]; exact h2 j (by omega)
end
theorem c_min1 (hCc : X.calm = true) : CallR X (.builtin "min") (rDn X.K dMin1 .v) := by
  intro pnz s σ H xs us Q I rx ⟨ω, N, ds, d, om, dom, hXx, hGg, k⟩
  match ds, hGg, hXx with
  | [.list es], hGg, hXx =>
    obtain ⟨v, rfl, h⟩ := InBs.one hXx
    obtain ⟨a, ys, rfl, ha, h1⟩ := h.list
    simp only [dMin1] at hGg
    cases e : dNums es with
    | none => rw [e] at hGg; cases hGg
    | some bs =>
      rw [e] at hGg
      cases bs with
      | nil => cases hGg
      | cons n ns =>
        cases hGg
        have := h1.nums e
        subst this
        refine cr_min hCc pnz s σ H _ us Q I rx ⟨a, n :: ns, rfl, .inl (.inl ha), Nat.succ_pos _, fun m hMm hLe => k _ H (Same.refl H) ?_⟩
        rw [min_uniq hMm hLe]
        exact .int _
  | [.tuple es], hGg, hXx =>
    obtain ⟨v, rfl, h⟩ := InBs.one hXx
    obtain ⟨a, ys, rfl, ha, h1⟩ := h.tuple
    simp only [dMin1] at hGg
    cases e : dNums es with
    | none => rw [e] at hGg; cases hGg
    | some bs =>
      rw [e] at hGg
      cases bs with
      | nil => cases hGg
      | cons n ns =>
        cases hGg
        have := h1.nums e
        subst this
        obtain ⟨itz, rVs, hLl, _⟩ := I.tuple ha
        rw [Vals.ref1 rx]
        refine min_rawT (I.ok.hd hCc) hLl rVs.ints (Nat.succ_pos _) fun h' tk m t' hKk hMm hLe => ⟨.int m, H, I.kept hKk, ⟨_, rfl⟩, k _ H (Same.refl H) ?_⟩
        rw [min_uniq hMm hLe]
        exact .int _
end
end DL
end
section
set_option linter.all false
set_option maxRecDepth 100000
namespace DL
open PySem PySem.Spec PyProof.Rows L2
/-! ### a, b, c = x, y, z -/
/-- the old frame and the one that is being filled, side by side -/
theorem RepE.fill2 {K : PySem.W.Frag} {ω : Option Om} {N : Addr → Prop} {E H H1 : Hp} {b c : Nat} {env env' : Ev} {σ σ' : L2.St} {o : Bool} {i : Nat} {x : D} {v : V} (r : RepE K ω N E H b env σ) (r' : RepE K ω N E H b env' σ') (k1 : Keep ω H H1) (oo : OrcO ω c H1) (h : RK K ω N H H1 (kdOf o) v x) :
    ∃ N1, RepE K ω N1 E H1 c env σ ∧ RepE K ω N1 E H1 c (setS o i x env') (σ'.set i (some v)) ∧ (∀ z, N z → N1 z) ∧ Pres K N N1 H H1 := by
  cases o with
  | false => exact ⟨N, r.move k1 oo, (r'.move k1 oo).setV h, fun _ z => z, Pres.keep r.om k1⟩
  | true =>
    obtain ⟨p, rfl, hp, h1⟩ := h
    obtain ⟨op, ep⟩ := h1.there
    refine ⟨addN N p, r.more k1 oo hp (by rw [ep]; exact fun q => nomatch q), r'.own k1 oo hp h1, fun _ z => .inl z, fun v d hv => ?_⟩
    exact hv.mono (fun x z => z.elim .inl fun e => .inr (by rw [e]; exact hp)) fun x o e n => k1 x o e fun z => n (r.om x z)
def sPar3 (o1 o2 o3 : Bool) (i j l : Nat) (f1 f2 f3 : FE) : FS := fun env => (f1 env).bind fun x => (f2 env).bind fun y => (f3 env).bind fun z => .ret (.nx (setS o3 l z (setS o2 j y (setS o1 i x env))))
theorem xs_par3 {X : Cx} {k : Kd} {st : Stmt} {o1 o2 o3 : Bool} {i j l : Nat} {f1 f2 f3 : FE} (h : PS X st (tPar3 i j l (tCons (tX X.K (kdOf o1) f1) (tCons (tX X.K (kdOf o2) f2) (tCons (tX X.K (kdOf o3) f3) tNil))))) : XS X k st (sPar3 o1 o2 o3 i j l f1 f2 f3) := weakS h fun D' σ H ⟨ω, N0, N, E, b, env, r, n0, e0, q⟩ => by
  refine ⟨ω, N, E, b, env, r, Tr.All_mono ((Tr.All_bind _ _ _ _).mp q) fun x c qa v H1 k1 p1 i1 => ?_⟩
  obtain ⟨N1, a1, b1, s1, t1⟩ := r.fill (i := i) k1 p1 i1
  refine ⟨ω, N1, E, c, env, a1, Tr.All_mono ((Tr.All_bind _ _ _ _).mp qa) fun y c2 qb u H2 k2 p2 i2 => ?_⟩
  obtain ⟨N2, a2, b2, s2, t2⟩ := a1.fill2 (i := j) b1 k2 p2 i2
  refine ⟨ω, N2, E, c2, env, a2, Tr.All_mono ((Tr.All_bind _ _ _ _).mp qb) fun z c3 qc y3 H3 k3 p3 i3 => ⟨v, u, y3, rfl, ?_⟩⟩
  obtain ⟨N3, _, b3, s3, t3⟩ := a2.fill2 (i := l) b2 k3 p3 i3
  exact qc N3 H3 _ b3 (fun z hz => s3 z (s2 z (s1 z (n0 z hz)))) ((t1.trans t2).trans t3)
end DL
end
section
set_option linter.all false
set_option maxRecDepth 100000
namespace DL
open PySem PySem.Spec PyProof.Rows L2
/-! ### the law: its drawing state first, the rest over data -/
def spLaw (K : PySem.W.Frag) : Sp := fun vs H Q _ => ∃ (a : Addr) (ns : List Int), vs = [.ref a] ∧ SqS K (fun _ => False) H a (ns.map V.int) ∧ ns.length ≤ 63 ∧ (∀ z ∈ ns, z.natAbs < 2 ^ 1048577) ∧ ∀ H', Q (.bl true) H'
def spBegun (K : PySem.W.Frag) : Sp := fun vs H Q _ => ∃ (a : Addr) (ns : List Int), vs = [.ref a] ∧ SqS K (fun _ => False) H a (ns.map V.int) ∧ ns.length ≤ 63 ∧ (∀ z ∈ ns, z.natAbs < 2 ^ 1048577) ∧
  ∀ (w : Om) (H' : Hp), Same H H' → H w.a = none → H w.c = none → H w.g = none → (∀ b : Nat, b ≤ 2 ^ 40 → Orc w b H') → Q (.ref w.a) H'
/-- the frame behind the first statement -/
def env0 (n : Nat) (ns : List Int) : Ev := some (.val (scrD (ns.map PyData.int))) :: some .orc :: List.replicate n none
/-- the rest of the law comes to True, whatever is drawn -/
def RestOk (n : Nat) (rest : FS) : Prop := ∀ ns : List Int, ns.length ≤ 63 → ∃ b : Nat, b ≤ 2 ^ 40 ∧ (rest (env0 n ns)).All b fun o _ => o = .rv (.bool true)
theorem law_reads {K : PySem.W.Frag} {n : Nat} {Ns : List Str} {rest : FS} {vs : List V} {H : Hp} {Q : VK} {E : XK} {t : TE} (hN : Ns.length = n + 2) (ht : ∀ σ H Q, tCons (tVar 0) tNil σ H (fun vs H1 => spBegun K vs H1 Q E0) → t σ H Q) (ok : RestOk n rest) (h : spLaw K vs H Q E) :
    tSeq (tAsg t (gName 1)) (tS K .v rest) { nx := fun _ H' => Q .non H', rt := Q } (L2.start Ns vs) H := by
  obtain ⟨a, ns, rfl, hs, hl, hb, hq⟩ := h
  have e0 : L2.start Ns [V.ref a] = some (V.ref a) :: none :: List.replicate n none := by
    unfold L2.start
    rw [hN]
    show [some (V.ref a)] ++ List.replicate (n + 2 - 1) none = _
    rw [show n + 2 - 1 = n + 1 by omega, List.replicate_succ]
    rfl
  rw [e0]
  refine seqAsg (ht _ _ _ ⟨_, rfl, a, ns, rfl, hs, hl, hb, fun w H' s ha hc hg orc => ?_⟩)
  obtain ⟨b, hb2, q⟩ := ok ns hl
  have hO := orc b hb2
  have na : ¬ OmAt (some w) a ∨ LK K a (ns.map V.int) := by
    rcases hs with ⟨_, o, e⟩ | e
    · refine .inl fun z => ?_
      rcases z with z | z | z
      · rw [z, ha] at e; cases e
      · rw [z, hc] at e; cases e
      · rw [z, hg] at e; cases e
    · exact .inr e
  have hs' : SqS K (OmAt (some w)) H' a (ns.map V.int) := by
    rcases hs with ⟨_, o, e⟩ | e
    · rcases na with na | na
      · exact .inl ⟨na, o, s _ _ e⟩
      · exact .inr na
    · exact .inr e
  have r : RepE K (some w) (OmAt (some w)) H' H' b (env0 n ns) (some (V.ref a) :: some (V.ref w.a) :: List.replicate n none) := {
    len := by unfold env0; simp
    slot := fun i s e => by
      unfold env0 at e
      rcases i with _ | _ | i
      · cases e
        exact ⟨_, rfl, In.scr hs' (in_ints ns)⟩
      · cases e
        exact ⟨_, rfl, w, rfl, rfl⟩
      · rw [List.getElem?_cons_succ, List.getElem?_cons_succ, List.getElem?_replicate] at e
        split at e <;> cases e
    sep := fun i j di dj x hij e1 e2 e3 e4 => by
      unfold env0 at e1
      rcases i with _ | _ | i
      · cases e1
      · cases e1
      · rw [List.getElem?_cons_succ, List.getElem?_cons_succ, List.getElem?_replicate] at e1
        split at e1 <;> cases e1
    dom := fun x hx => (show OrcO (some w) b H' from hO).there hx
    om := fun _ h => h
    orc := hO
    keep := Keep.refl }
  refine ⟨some w, OmAt (some w), OmAt (some w), H', b, env0 n ns, r, fun _ h => h, fun x hx => (show OrcO (some w) b H' from hO).there hx, Tr.All_mono q fun o c e => ?_⟩
  subst e
  intro v H2 _ _ i
  cases In.bool_inv (show In K (OmAt (some w)) H2 v (.bool true) from i)
  exact hq H2
/-- the law's def, of a body that begins with m = _law_begun(script) -/
theorem law_of_rest {P : Program} {w : World} {K : PySem.W.Frag} {mg : Str → Option Value} {base : Heap} {st : Stmt} {f : Addr} {fd : FuncData} {Ns : List Str} {k n : Nat} {rest : FS} (F : Fun K "law" "law" st f fd) (S : FnScope Ns ["script"] (defScope st)) (hN : Ns.length = n + 2)
    (hb : ∀ (cdv : Value) (A : Around) (outer : List Env) (s : Shared) (H : Hp) (E : XK), Room k (A.deeper (envOfC "law" (defScope st) s.heap.objs.size f cdv)) → A.guards = some [] →
      ∃ t, (∀ σ H Q, tCons (tVar 0) tNil σ H (fun vs H1 => spBegun K vs H1 Q E0) → t σ H Q) ∧ PSs (cxOf CX0 P w K mg base Ns "law" (defScope st) f cdv A outer s H E).nox (defBody st) (tSeq (tAsg t (gName 1)) (tS K .v rest)))
    (ok : RestOk n rest) : FnG P w K mg base (k + 1) f fd ["script"] (spLaw K) := by
  refine fnG_raw F S (fun _ _ _ _ ⟨a, ns, e, _⟩ => by rw [e]; rfl) fun cdv A outer s H vs Q E hr hgd hs => ?_
  obtain ⟨t, ht, h⟩ := hb cdv A outer s H E hr hgd
  exact ⟨_, h, law_reads hN ht ok hs⟩
theorem bits_lt {z : Int} (h : Builtin.Int.intBits z ≤ 1048576) : z.natAbs < 2 ^ 1048577 := by
  unfold Builtin.Int.intBits at h
  by_cases e : z = 0
  · subst e
    exact Nat.two_pow_pos _
  · have e2 : (z == 0) = false := by simpa using e
    rw [e2] at h
    have h1 : z.natAbs.log2 + 1 ≤ 1048576 := h
    have h2 : z.natAbs < 2 ^ (z.natAbs.log2 + 1) := Nat.lt_log2_self
    exact Nat.lt_of_lt_of_le h2 (Nat.pow_le_pow_right (by omega) (by omega))
theorem walk_GE {l : PySem.W.OpenLaw} {k : Nat} {q : Program} {loose : List Str} {XP : (Str → Option Value) → Heap → Prop} {YP : World → Heap → Prop} {d : DefRec} {y : Str} (hn : l.most = some 63) (hdf : d.params.defaults = []) (hr : Room k callerA)
    (F : ∀ (w : World) (mg : Str → Option Value) (fa : Addr) (h : Heap), YP w h → h.Ns mainGlobals mg → mg d.name = some (.ref fa) →
      ∃ (K : PySem.W.Frag) (fd : FuncData), K.In h ∧ (∀ (s : Shared) (u : Value), BindsTo s fd ⟨[u], []⟩ [(y, u)]) ∧ ∀ base : Heap, K.In base → base.Ns mainGlobals mg → FnG l.prog w K mg base k fa fd [y] (spLaw K)) :
    PySem.W.WalkO q loose XP YP l.row.toRowW d [] (fun f vs => PySem.call f vs) := by
  refine Att.attach_callB hn hdf fun w s0 st mg mb fa o pm cd doc a vs ns G Y _ _ _ hmg hobj hi hlen hbits nog => ?_
  obtain ⟨K, fd, kin, bnd, hF⟩ := F w mg fa _ Y G.T.g hmg
  have rv := vals_ints hi
  have hsz : (ns.map V.int).length ≤ sizeLine := by rw [List.length_map, sizeLine_eq]; omega
  have hb : ∀ z ∈ ns, z.natAbs < 2 ^ 1048577 := fun z hz => bits_lt (hbits z hz)
  match hk : K.lookup a with
  | some ob =>
    have hob := kin a ob hk
    rw [hobj] at hob
    cases hob
    refine top_run kin G.T.g G.T.b G.T.builtins G.T.nolimit nog hr hF bnd (fun _ => none) (fun b u z => nomatch (show (none : Option HO) = some u from z)) (fun b u z => nomatch (show (none : Option HO) = some u from z)) ⟨a, ns, rfl, .inr ⟨_, vs.toArray, _, hk, rfl, rfl, rfl, ?_, by simpa using rv⟩, hlen, hb, fun _ => rfl⟩
    rw [List.size_toArray, hi.length, sizeLine_eq]
    omega
  | none =>
    let H : Hp := fun b => if b = a then some (.frz { cls := .type "list", data := .seq vs.toArray } (.lst (ns.map V.int))) else none
    have here : H a = some (.frz { cls := .type "list", data := .seq vs.toArray } (.lst (ns.map V.int))) := if_pos rfl
    have only : ∀ b u, H b = some u → b = a ∧ u = .frz { cls := .type "list", data := .seq vs.toArray } (.lst (ns.map V.int)) := fun b u z => by
      by_cases e : b = a
      · subst e
        rw [here] at z
        cases z
        exact ⟨rfl, rfl⟩
      · have z' : (if b = a then some _ else none : Option HO) = some u := z
        rw [if_neg e] at z'
        cases z'
    refine top_run kin G.T.g G.T.b G.T.builtins G.T.nolimit nog hr hF bnd H (fun b u z => ?_) (fun b u z => ?_) ⟨a, ns, rfl, .inl ⟨id, _, here⟩, hlen, hb, fun _ => rfl⟩
    · obtain ⟨rfl, rfl⟩ := only b u z
      exact ⟨_, _, vs.toArray, 0, rfl, hobj, rfl, hk⟩
    · obtain ⟨rfl, rfl⟩ := only b u z
      exact ⟨hobj, hsz, vs, 0, rv, hobj⟩
/-! ### written data of the module, as the head finds them -/
mutual
def wrB (K : PySem.W.Frag) : Nat → Value → D → Bool
  | _, .none, .none => true
  | _, .bool b, .bool c => b == c
  | _, .int i _, .int j => decide (i = j)
  | _, .str x _, .str y => decide (x = y)
  | n + 1, .ref a, .tuple ds => match K.lookup a with
    | some o => match o.cls, o.data with
      | .type c, .seq its _ => decide (c = "tuple") && o.dict.isNone && (decide (its.size ≤ sizeLine) && wrBs K n its.toList ds)
      | _, _ => false
    | none => false
  | _, _, _ => false
def wrBs (K : PySem.W.Frag) : Nat → List Value → List D → Bool
  | _, [], [] => true
  | n + 1, u :: us, d :: ds => wrB K n u d && wrBs K n us ds
  | _, _, _ => false
end
mutual
theorem wrB_ok {K : PySem.W.Frag} : ∀ (n : Nat) (u : Value) (d : D), wrB K n u d = true → ∃ v, RelV v u ∧ ∀ N H, In K N H v d
  | n, u, d, h => by
    unfold wrB at h
    split at h
    · exact ⟨.non, rfl, fun _ _ => .non⟩
    · rename_i b c
      cases eq_of_beq h
      exact ⟨.bl b, rfl, fun _ _ => .bl b⟩
    · rename_i i t j
      cases of_decide_eq_true h
      exact ⟨.int i, ⟨t, rfl⟩, fun _ _ => .int i⟩
    · rename_i x t y
      cases of_decide_eq_true h
      exact ⟨.str x, ⟨t, rfl⟩, fun _ _ => .str x⟩
    · rename_i m a ds
      split at h
      · rename_i o lk
        split at h
        · rename_i c its k ec ed
          rw [Bool.and_eq_true, Bool.and_eq_true, Bool.and_eq_true] at h
          obtain ⟨⟨h1, hd⟩, h2, h3⟩ := h
          obtain ⟨vs, r, hi⟩ := wrBs_ok m its.toList ds h3
          exact ⟨.ref a, rfl, fun N H => .tupK ⟨o, its, k, lk, by rw [ec, of_decide_eq_true h1], Option.isNone_iff_eq_none.mp hd, ed, of_decide_eq_true h2, r⟩ (hi N H)⟩
        · cases h
      · cases h
    · cases h
theorem wrBs_ok {K : PySem.W.Frag} : ∀ (n : Nat) (us : List Value) (ds : List D), wrBs K n us ds = true → ∃ vs, Vals vs us ∧ ∀ N H, InAll K N H vs ds
  | n, us, ds, h => by
    unfold wrBs at h
    split at h
    · exact ⟨[], .nil, fun _ _ => .nil⟩
    · rename_i m u us d ds
      rw [Bool.and_eq_true] at h
      obtain ⟨v, r, i⟩ := wrB_ok m u d h.1
      obtain ⟨vs, rs, is⟩ := wrBs_ok m us ds h.2
      exact ⟨v :: vs, .cons r rs, fun N H => .cons (i N H) (is N H)⟩
    · cases h
end
def gloB (K : PySem.W.Frag) (x : Str) (d : D) : Bool := match PySem.W.nsIn K mainGlobals x with
  | some (some u) => wrB K 100 u d
  | _ => false
theorem gloB_ok {K : PySem.W.Frag} {h : Heap} {mg : Str → Option Value} (X : K.In h) (G : h.Ns mainGlobals mg) {x : Str} {d : D} (c : gloB K x d = true) : Glob K mg x d := by
  unfold gloB at c
  split at c
  · rename_i u e
    obtain ⟨v, r, i⟩ := wrB_ok _ _ _ c
    exact ⟨v, u, PySem.W.mg_of X G e, r, i⟩
  · cases c
def intB (K : PySem.W.Frag) (x : Str) (i : Int) : Bool := match PySem.W.nsIn K mainGlobals x with
  | some (some u) => decide (u = .int i 0)
  | _ => false
/-! ### the head's Hook: the facts of names and defs, and one more Bool -/
def obsM (n : Nat) (fa : List He.Fa) (fn : List He.DefD) (ex : PySem.W.Frag → Bool) (g : Addr → Option Obj) : He.AlD × Bool := (He.obsD fa fn (He.frG g (He.asD g n)), ex (He.frG g (He.asD g n)))
def hookM (n : Nat) (fa : List He.Fa) (fn : List He.DefD) (ex : PySem.W.Frag → Bool) : PySem.W.Hook where
  α := He.AlD × Bool
  obs := fun s => obsM n fa fn ex s.heap.get?
  val := fun _ => (He.valD fn, true)
  says := fun _ h => ∃ K : PySem.W.Frag, K.In h ∧ He.SaysD fa fn K ∧ ex K = true
  of := fun _ _ e => ⟨_, He.frG_in, congrArg (fun z : He.AlD × Bool => z.1) e, congrArg (fun z : He.AlD × Bool => z.2) e⟩
  keeps := fun _ _ _ ⟨K, hK, c, c2⟩ k => ⟨K, PySem.W.Frag.In.keeps hK k, c, c2⟩
theorem obsM_eq {n : Nat} {fa : List He.Fa} {fn : List He.DefD} {ex : PySem.W.Frag → Bool} {g : Addr → Option Obj} {s : Shared} (h : ∀ a, g a = s.heap.get? a) : obsM n fa fn ex g = (hookM n fa fn ex).obs s := by
  have e : g = s.heap.get? := funext h
  rw [e]
  rfl
theorem fun_of {K : PySem.W.Frag} {x qual : Str} {st : Stmt} {f : Addr} {fd : FuncData} (F : FunD K x qual (defArgs st) (defBody st) (defScope st) [] [] f fd) : Fun K x qual st f fd := by
  obtain ⟨oc, od, dV, kV, doc, pm, an, cdv, ct, osl, e, lk, hcd, hD, _⟩ := F.ex
  rcases hD with ⟨_, rfl⟩ | ⟨z, _⟩
  · exact ⟨⟨oc, od, kV, doc, pm, an, cdv, ct, osl, e, lk, hcd⟩, F.kp⟩
  · exact absurd rfl z
end DL
end
section
set_option linter.all false
set_option maxRecDepth 100000
namespace DL
open PySem PySem.Spec PyProof.Rows L2
/-- a whole number of the module -/
theorem xe_globI {X : Cx} {x : Str} {i : Int} {pos : Pos} (hg : Gl X x) (h : ∃ t, X.mg x = some (.int i t)) (hdb : (x == ("__debug__" : Str)) = false := by decide) : XE X .v (.Name x pos) (eC (.int i)) := by
  obtain ⟨t, e⟩ := h
  exact xe_glob hg e (v := .int i) ⟨t, rfl⟩ (fun _ _ => .int i) hdb
section
variable {P : Program} {w : World} {K : PySem.W.Frag} {mg : Str → Option Value} {base : Heap} {x : Str} {st : Stmt} {f : Addr} {fd : FuncData} {j : Nat} {ps ks : List Str} {sp : Sp}
theorem calK_id (F : Fun K x x st f fd) (G : FnG P w K mg base j f fd ps sp) (hm : mg x = some (.ref f))
    (h : ∀ (kV doc pm : Value) (an : Option Addr) (cdv ct : Value) (us : List Value), us.length = ps.length → bindArgs (PySem.W.fnOf x x (defArgs st) (defBody st) (defScope st) .none kV doc pm an cdv ct) ⟨[], ps.zip us⟩ = pure (ps.zip us)) : CalK P w K mg base x j ps id id sp ps := by
  refine ⟨f, fd, G, fun s ws _ hl => ?_, fun h => h, hm, F.kp⟩
  obtain ⟨oc, od, kV, doc, pm, an, cdv, ct, osl, rfl, lk, hcd⟩ := F.ex
  exact .of_eq (h kV doc pm an cdv ct ws hl)
theorem vals_getD {zs : List V} {ws : List Value} (r : Vals zs ws) (i : Nat) : RelV (zs.getD i .non) (ws.getD i .none) := paired_getD (F := RelV) (a := V.non) (b := Value.none) rfl i r
theorem calK_reo {n : Nat} {idx : List Nat} (F : Fun K x x st f fd) (G : FnG P w K mg base j f fd ps sp) (hm : mg x = some (.ref f)) (hi : idx.length = ps.length ∧ 0 < ps.length)
    (h : ∀ (kV doc pm : Value) (an : Option Addr) (cdv ct : Value) (us : List Value), us.length = n → bindArgs (PySem.W.fnOf x x (defArgs st) (defBody st) (defScope st) .none kV doc pm an cdv ct) ⟨[], ks.zip us⟩ = pure (ps.zip (reo n idx .none us))) : CalK P w K mg base x j ps (reo n idx .none) (reo n idx .non) sp ks := by
  refine ⟨f, fd, G, fun s ws _ hl => ?_, fun {zs ws} r => paired_reo (F := RelV) (a := V.non) (b := Value.none) rfl r, hm, F.kp⟩
  obtain ⟨oc, od, kV, doc, pm, an, cdv, ct, osl, rfl, lk, hcd⟩ := F.ex
  refine .of_eq (h kV doc pm an cdv ct ws ?_)
  by_cases e : ws.length = n
  · exact e
  · unfold reo at hl
    rw [if_neg e] at hl
    have : 0 = ps.length := hl
    omega
end
end DL
end
section
set_option linter.all false
set_option maxRecDepth 100000
namespace DL
open PySem PySem.Spec PyProof.Rows L2
def dMulA (x y : D) : Option D := match dMul x y with
  | some d => some d
  | none => dRep x y
theorem o_mulA {X : Cx} : OpR X (binaryOp .Mult) (rD2 X.K dMulA .v) := by
  intro pins s σ H x y v u Q I rx ry ⟨ω, N, d, e, z, om, dom, hx, hy, hg, k⟩
  unfold dMulA at hg
  cases q : dMul d e with
  | some d' =>
    rw [q] at hg
    cases hg
    exact o_mul pins s σ H x y v u Q I rx ry ⟨ω, N, d, e, _, om, dom, hx, hy, q, k⟩
  | none =>
    rw [q] at hg
    exact o_rep pins s σ H x y v u Q I rx ry ⟨ω, N, d, e, z, om, dom, hx, hy, hg, fun v' H' s' h => k v' H' s' (h.ov dom)⟩
/-! ### a run by chance, to try a mirror -/
def tryRun {α : Type} : Tr α → Nat → Nat → Option α
  | .ret a, _, _ => some a
  | .fail, _, _ => none
  | .draw n k, s, fuel => let s' := (s * 6364136223846793005 + 1442695040888963407) % 18446744073709551616
    tryRun (k ((s' / 4294967296) % n)) s' fuel
end DL
namespace DL
open PySem PySem.Spec PyProof.Rows L2
/-! ### len of the script, too -/
def dLenA : List D → Option D
  | [.dict [(.none, .list ds)]] => some (.int (ds.length : Nat))
  | ds => dLen ds
theorem c_lenA {X : Cx} : CallR X (.builtin "len") (rDn X.K dLenA .v) := by
  intro pins s σ H xs us Q I rx ⟨ω, N, ds, d, om, dom, hx, hg, k⟩
  unfold dLenA at hg
  split at hg
  · rename_i es
    cases hg
    obtain ⟨v, rfl, h⟩ := InBs.one hx
    have h2 : In X.K N H v (scrD es) := by
      rcases h with h | ⟨a, e, n, kvs, ea, h⟩
      · exact h
      · exact absurd rfl (InKV.key h _ (List.mem_cons_self ..))
    obtain ⟨a, ys, rfl, hs, h1⟩ := h2.scr_inv
    exact call_len_seq pins s σ H _ us Q I rx ⟨a, ys, rfl, .inl hs.seq, k _ H (Same.refl H) (by rw [h1.length]; exact .int _)⟩
  · exact c_len pins s σ H xs us Q I rx ⟨ω, N, ds, d, om, dom, hx, hg, k⟩
end DL
end
section
set_option linter.all false
set_option maxRecDepth 100000
namespace DL
open PySem PySem.Spec PyProof.Rows L2
/-! ### nested things in lists and tuples -/
def inOk (x : D) (ds : List D) : Bool := x.canLay0 && decide (x.depth ≤ 60) && ds.all PyData.canLay0
def dInA (neg : Bool) (x : D) : D → Option D
  | .list ds => if (flatD x && ds.all flatD) || inOk x ds then some (.bool (if neg = true then !memD x ds else memD x ds)) else none
  | .tuple ds => if (flatD x && ds.all flatD) || inOk x ds then some (.bool (if neg = true then !memD x ds else memD x ds)) else none
  | _ => none
theorem noDictAll {ds : List D} (h : ds.all PyData.canLay0 = true) : PyData.hasDictAll ds = false := by
  induction ds with
  | nil => rfl
  | cons d ds ih =>
    rw [List.all_cons, Bool.and_eq_true] at h
    show (d.hasDict || PyData.hasDictAll ds) = false
    rw [PyData.hasDict_of_canLay d h.1, ih h.2]
    rfl
theorem readsAll_get {h : Heap} : ∀ {us : List Value} {ds : List D} {as : List Addr}, ReadsAll h us ds as → ∀ (i : Nat) (d : D), ds[i]? = some d → ∃ u bs, us[i]? = some u ∧ Reads h u d bs
  | _, _, _, .nil, _, _, e => by simp at e
  | _, _, _, .cons r rs, 0, d, e => by
    simp at e
    subst e
    exact ⟨_, _, rfl, r⟩
  | _, _, _, .cons r rs, i + 1, d, e => by
    obtain ⟨u, bs, e1, r1⟩ := readsAll_get rs i d (by simpa using e)
    exact ⟨u, bs, by simpa using e1, r1⟩
theorem readsAll_len {h : Heap} : ∀ {us : List Value} {ds : List D} {as : List Addr}, ReadsAll h us ds as → us.length = ds.length
  | _, _, _, .nil => rfl
  | _, _, _, .cons r rs => by rw [List.length_cons, List.length_cons, readsAll_len rs]
open Classical in
noncomputable def eqW (us : List Value) (ds : List D) (d : D) (y : Value) : Bool := decide (∃ (i : Nat) (dy : D), us[i]? = some y ∧ ds[i]? = some dy ∧ PyData.eqv dy d = true)
open Classical in
theorem eqW_at {h : Heap} {us : List Value} {ds : List D} {as : List Addr} (r : ReadsAll h us ds as) {d dy : D} {y : Value} {i : Nat} (hy : us[i]? = some y) (hd : ds[i]? = some dy) : eqW us ds d y = PyData.eqv dy d := by
  unfold eqW
  cases e : PyData.eqv dy d
  · refine decide_eq_false ?_
    rintro ⟨j, dz, h1, h2, h3⟩
    obtain ⟨u, bs, q1, q2⟩ := readsAll_get r i dy hd
    obtain ⟨u', bs', q3, q4⟩ := readsAll_get r j dz h2
    rw [hy] at q1
    rw [h1] at q3
    cases q1
    cases q3
    have := (PyProof.Rows.reads_det (fun _ _ e _ => e) q2 q4).1
    subst this
    rw [e] at h3
    cases h3
  · exact decide_eq_true ⟨i, dy, hy, hd, e⟩
open Classical in
theorem eqW_any {h : Heap} {us : List Value} {ds : List D} {as : List Addr} (r : ReadsAll h us ds as) {d : D} : us.any (eqW us ds d) = memD d ds := by
  unfold memD
  rw [Bool.eq_iff_iff, List.any_eq_true, List.any_eq_true]
  constructor
  · rintro ⟨y, hy, e⟩
    obtain ⟨i, dy, h1, h2, h3⟩ := of_decide_eq_true e
    exact ⟨dy, List.mem_of_getElem? h2, h3⟩
  · rintro ⟨dy, hd, e⟩
    obtain ⟨i, hi⟩ := List.getElem?_of_mem hd
    obtain ⟨u, bs, q1, _⟩ := readsAll_get r i dy hi
    exact ⟨u, List.mem_of_getElem? q1, by rw [eqW_at r q1 hi]; exact e⟩
section
variable {X : Cx}
theorem eq_all {pins : List (Addr × Obj)} {σ : L2.St} {H : Hp} {s : Shared} (I : Inv X pins σ H s) {us : List Value} {ds : List D} {as bs : List Addr} (r : ReadsAll s.heap us ds as) {v : Value} {d : D} (rv : Reads s.heap v d bs) (hc : d.canLay0 = true) (hd : d.depth ≤ 60) (ha : ds.all PyData.canLay0 = true) (hu : X.A.units + 64 < cLine) : ∀ y ∈ us, SeqAt.EqAt X.A.in1 s y v (eqW us ds d y) := fun y hy => by
  obtain ⟨i, hi⟩ := List.getElem?_of_mem hy
  have hl : i < ds.length := by
    rw [← readsAll_len r]
    exact (List.getElem?_eq_some_iff.mp hi).1
  have hdy : ds[i]? = some ds[i] := List.getElem?_eq_getElem hl
  rw [eqW_at r hi hdy]
  obtain ⟨u, cs, q1, q2⟩ := readsAll_get r i _ hdy
  rw [hi] at q1
  cases q1
  refine SeqAt.eqAt_reads ds[i] d X.A.in1 s y v cs bs q2 rv (List.all_eq_true.mp ha _ (List.getElem_mem hl)) hc ?_
  show X.A.units + 1 + min ds[i].depth d.depth < cLine
  have := Nat.min_le_right ds[i].depth d.depth
  omega
theorem o_inA0 (hu : X.A.units + 64 < cLine) : OpR X (compareOp .In) (rD2 X.K (dInA false) .v) := by
  intro pins s σ H x y v u Q I rx ry ⟨ω, N, d, e, z, om, dom, hx, hy, hg, k⟩
  by_cases fl : ∃ ds, (e = .list ds ∨ e = .tuple ds) ∧ (flatD d && ds.all flatD) = true
  · obtain ⟨ds, he, fl⟩ := fl
    refine o_in pins s σ H x y v u Q I rx ry ⟨ω, N, d, e, z, om, dom, hx, hy, ?_, k⟩
    rw [Bool.and_eq_true] at fl
    rcases he with rfl | rfl
    · simp only [dInA, fl.1, fl.2, Bool.and_self, Bool.true_or, if_true] at hg
      simp only [dIn, fl.1, fl.2, and_self, if_true]
      exact hg
    · simp only [dInA, fl.1, fl.2, Bool.and_self, Bool.true_or, if_true] at hg
      simp only [dIn, fl.1, fl.2, and_self, if_true]
      exact hg
  · cases e <;> first | (cases hg; done) | skip
    · rename_i ds
      have nf : (flatD d && ds.all flatD) = false := by
        cases q : (flatD d && ds.all flatD)
        · rfl
        · exact absurd ⟨ds, .inl rfl, q⟩ fl
      simp only [dInA, nf, Bool.false_or] at hg
      split at hg
      · cases hg
        rename_i hs
        unfold inOk at hs
        rw [Bool.and_eq_true, Bool.and_eq_true] at hs
        obtain ⟨⟨c1, c2⟩, c3⟩ := hs
        obtain ⟨a, xs, rfl, ha, h1⟩ := hy.list
        cases ry
        obtain ⟨its, rv, pl, hz⟩ := I.list (.inl (.inl ha))
        obtain ⟨as, r1⟩ := Dp.readsAll I ds xs its (h1.dp (noDictAll c3)) rv
        obtain ⟨bs, r2⟩ := Dp.reads I d x v (hx.dp (PyData.hasDict_of_canLay d c1)) rx
        refine SeqAt.in_listAt (eqW its ds d) pl.isList (fun w hw => eq_all I r1 r2 c1 (of_decide_eq_true c2) c3 hu w (by simpa using hw)) ⟨.bl _, H, I, rfl, ?_⟩
        rw [show its.toArray.any (eqW its ds d) = its.any (eqW its ds d) by simp, eqW_any r1]
        exact k _ H (Same.refl H) (.bl _)
      · cases hg
    · rename_i ds
      have nf : (flatD d && ds.all flatD) = false := by
        cases q : (flatD d && ds.all flatD)
        · rfl
        · exact absurd ⟨ds, .inr rfl, q⟩ fl
      simp only [dInA, nf, Bool.false_or] at hg
      split at hg
      · cases hg
        rename_i hs
        unfold inOk at hs
        rw [Bool.and_eq_true, Bool.and_eq_true] at hs
        obtain ⟨⟨c1, c2⟩, c3⟩ := hs
        obtain ⟨a, xs, rfl, ha, h1⟩ := hy.tuple
        cases ry
        obtain ⟨its, rv, pl, hz⟩ := I.tuple ha
        obtain ⟨as, r1⟩ := Dp.readsAll I ds xs its (h1.dp (noDictAll c3)) rv
        obtain ⟨bs, r2⟩ := Dp.reads I d x v (hx.dp (PyData.hasDict_of_canLay d c1)) rx
        refine SeqAt.in_tupleAt (eqW its ds d) pl (fun w hw => eq_all I r1 r2 c1 (of_decide_eq_true c2) c3 hu w (by simpa using hw)) ⟨.bl _, H, I, rfl, ?_⟩
        rw [show its.toArray.any (eqW its ds d) = its.any (eqW its ds d) by simp, eqW_any r1]
        exact k _ H (Same.refl H) (.bl _)
      · cases hg
end
end DL
/-! ### the first place of a nested thing -/
namespace DL
open PySem PySem.Spec PyProof.Rows L2
section
variable {X : Cx}
theorem o_notA0 (hu : X.A.units + 64 < cLine) : OpR X (compareOp .NotIn) (rD2 X.K (dInA true) .v) := by
  intro pins s σ H x y v u Q I rx ry ⟨ω, N, d, e, z, om, dom, hx, hy, hg, k⟩
  by_cases fl : ∃ ds, (e = .list ds ∨ e = .tuple ds) ∧ (flatD d && ds.all flatD) = true
  · obtain ⟨ds, he, fl⟩ := fl
    refine o_notin pins s σ H x y v u Q I rx ry ⟨ω, N, d, e, z, om, dom, hx, hy, ?_, k⟩
    rw [Bool.and_eq_true] at fl
    rcases he with rfl | rfl
    · simp only [dInA, fl.1, fl.2, Bool.and_self, Bool.true_or, if_true] at hg
      simp only [dIn, fl.1, fl.2, and_self, if_true]
      exact hg
    · simp only [dInA, fl.1, fl.2, Bool.and_self, Bool.true_or, if_true] at hg
      simp only [dIn, fl.1, fl.2, and_self, if_true]
      exact hg
  · cases e <;> first | (cases hg; done) | skip
    · rename_i ds
      have nf : (flatD d && ds.all flatD) = false := by
        cases q : (flatD d && ds.all flatD)
        · rfl
        · exact absurd ⟨ds, .inl rfl, q⟩ fl
      simp only [dInA, nf, Bool.false_or] at hg
      split at hg
      · cases hg
        rename_i hs
        unfold inOk at hs
        rw [Bool.and_eq_true, Bool.and_eq_true] at hs
        obtain ⟨⟨c1, c2⟩, c3⟩ := hs
        obtain ⟨a, xs, rfl, ha, h1⟩ := hy.list
        cases ry
        obtain ⟨its, rv, pl, hz⟩ := I.list (.inl (.inl ha))
        obtain ⟨as, r1⟩ := Dp.readsAll I ds xs its (h1.dp (noDictAll c3)) rv
        obtain ⟨bs, r2⟩ := Dp.reads I d x v (hx.dp (PyData.hasDict_of_canLay d c1)) rx
        refine SeqAt.notIn_listAt (eqW its ds d) pl.isList (fun w hw => eq_all I r1 r2 c1 (of_decide_eq_true c2) c3 hu w (by simpa using hw)) ⟨.bl _, H, I, rfl, ?_⟩
        rw [show its.toArray.any (eqW its ds d) = its.any (eqW its ds d) by simp, eqW_any r1]
        exact k _ H (Same.refl H) (.bl _)
      · cases hg
    · rename_i ds
      have nf : (flatD d && ds.all flatD) = false := by
        cases q : (flatD d && ds.all flatD)
        · rfl
        · exact absurd ⟨ds, .inr rfl, q⟩ fl
      simp only [dInA, nf, Bool.false_or] at hg
      split at hg
      · cases hg
        rename_i hs
        unfold inOk at hs
        rw [Bool.and_eq_true, Bool.and_eq_true] at hs
        obtain ⟨⟨c1, c2⟩, c3⟩ := hs
        obtain ⟨a, xs, rfl, ha, h1⟩ := hy.tuple
        cases ry
        obtain ⟨its, rv, pl, hz⟩ := I.tuple ha
        obtain ⟨as, r1⟩ := Dp.readsAll I ds xs its (h1.dp (noDictAll c3)) rv
        obtain ⟨bs, r2⟩ := Dp.reads I d x v (hx.dp (PyData.hasDict_of_canLay d c1)) rx
        refine SeqAt.notIn_tupleAt (eqW its ds d) pl (fun w hw => eq_all I r1 r2 c1 (of_decide_eq_true c2) c3 hu w (by simpa using hw)) ⟨.bl _, H, I, rfl, ?_⟩
        rw [show its.toArray.any (eqW its ds d) = its.any (eqW its ds d) by simp, eqW_any r1]
        exact k _ H (Same.refl H) (.bl _)
      · cases hg
def rIdxD (K : PySem.W.Frag) : V → List V → Hp → VK → Prop := fun x xs H Q => ∃ (a : Addr) (ys : List V) (y : V) (ds : List D) (d : D), x = V.ref a ∧ xs = [y] ∧ SqL K H a ys ∧ DpAll K H ys ds ∧ Dp K H y d ∧ inOk d ds = true ∧ memD d ds = true ∧ Q (.int ((ds.findIdx fun z => PyData.eqv z d : Nat))) H
theorem mt_idxD (hu : X.A.units + 64 < cLine) : MtR X "list.index" (rIdxD X.K) := by
  intro pins s σ H x xs v us Q I rx rxs h
  obtain ⟨a, ys, y, ds, d, rfl, rfl, hs, hys, hy, hok, hm, q⟩ := h
  unfold inOk at hok
  rw [Bool.and_eq_true, Bool.and_eq_true] at hok
  obtain ⟨⟨c1, c2⟩, c3⟩ := hok
  cases rx
  cases rxs with
  | cons ry rt =>
    rename_i uy ut
    cases rt
    obtain ⟨its, rv, ⟨⟨cls, dd, data, sl⟩, n, ho, hc, hdn, hd⟩, hlen⟩ := I.list hs
    simp only at hc hd
    subst hc hd
    obtain ⟨as, r1⟩ := Dp.readsAll I ds ys its hys rv
    obtain ⟨bs, r2⟩ := Dp.reads I d y uy hy ry
    have hl := readsAll_len r1
    obtain ⟨d0, hd0, he0⟩ : ∃ z ∈ ds, PyData.eqv z d = true := by
      unfold memD at hm
      exact List.any_eq_true.mp hm
    have hlt : (ds.findIdx fun z => PyData.eqv z d) < ds.length := List.findIdx_lt_length_of_exists ⟨d0, hd0, he0⟩
    have hj : (ds.findIdx fun z => PyData.eqv z d) < its.toArray.size := by
      rw [List.size_toArray, hl]
      exact hlt
    have at_ : ∀ m (h1 : m < its.toArray.size) (h2 : m < ds.length), eqW its ds d its.toArray[m] = PyData.eqv ds[m] d := fun m h1 h2 => eqW_at r1 (by
      rw [List.getElem_toArray]
      exact List.getElem?_eq_getElem _) (List.getElem?_eq_getElem h2)
    have hsl := sizeLine_eq
    have hvl := rv.length
    have hll : ys.length ≤ sizeLine := hlen
    refine call_meets PySem.F.slot_list_index ⟨_, ho, rfl⟩ PySem.F.entry_list_index (PySem.F.args_list_index_2 _ _)
      (SeqAt.list_indexAt a its.toArray n dd sl uy (eqW its ds d) _ hj (by
        have : its.toArray.size = its.length := List.size_toArray ..
        omega) ?_ ?_) ⟨ho, fun u' hu' => eq_all I r1 r2 c1 (of_decide_eq_true c2) c3 hu u' (by simpa using hu'), ?_⟩
    · rw [at_ _ hj hlt]
      exact List.findIdx_getElem (w := hlt)
    · intro m hm hmj
      rw [at_ m hm (by rw [List.size_toArray] at hm; omega)]
      exact Bool.eq_false_iff.mpr (by simpa using List.not_of_lt_findIdx hmj)
    · exact ⟨.int _, H, I.tok _, ⟨_, rfl⟩, q⟩
def dIdxA (ds : List D) (y : D) : Option D := if inOk y ds = true ∧ memD y ds = true then some (.int ((ds.findIdx fun z => PyData.eqv z y : Nat))) else none
def eIdxA (f fy : FE) : FE := fun env => (f env).bind fun d => match d with
  | .list ds => (fy env).bind fun y => Tr.ofOpt (dIdxA ds y)
  | _ => .fail
theorem xe_idxA {e : Expr} {f fy : FE} (h : PE X e (tBM X.K "list" (rIdxD X.K) (tX X.K .b f) (tCons (tX X.K .b fy) tNil))) : XE X .v e (eIdxA f fy) := weak h fun σ H Q ⟨ω, N, E, b, env, r, q⟩ => by
  refine ⟨ω, N, E, b, env, r, Tr.All_mono ((Tr.All_bind _ _ _ _).mp q) fun d c qa v H1 k1 o1 i1 => ?_⟩
  have i1 : InB X.K ω N H1 v d := i1
  cases d with
  | list ds =>
    obtain ⟨a, xs, rfl, ha, h1, no⟩ := InB.list2 i1 r.om
    refine ⟨.inl ⟨rfl, xs, .inl (.inl ha)⟩, ω, N, E, c, env, r.move k1 o1, Tr.All_mono ((Tr.All_bind _ _ _ _).mp qa) fun y c2 qb u H2 k2 o2 i2 => ?_⟩
    have i2 : InB X.K ω N H2 u y := i2
    have h2 : InAll X.K N H2 xs ds := h1.keep r.om k2
    have ha2 := k2 _ _ ha no
    unfold dIdxA at qb
    split at qb
    · rename_i hm
      have c3 : ds.all PyData.canLay0 = true ∧ y.canLay0 = true := by
        have := hm.1
        unfold inOk at this
        rw [Bool.and_eq_true, Bool.and_eq_true] at this
        exact ⟨this.2, this.1.1⟩
      exact ⟨a, xs, u, ds, y, rfl, rfl, .inl (.inl ha2), h2.dp (noDictAll c3.1), i2.dp (PyData.hasDict_of_canLay y c3.2), hm.1, hm.2, qb _ H2 (k1.trans k2) o2 (.int _)⟩
    · exact qb.elim
  | _ => exact qa.elim
end
end DL
end
section
set_option linter.all false
set_option maxRecDepth 100000
namespace DL
open PySem PySem.Spec PyProof.Rows L2
/-! ### divmod of whole numbers -/
def dDivmod : List D → Option D
  | [.int i, .int j] => if 0 < j ∧ j < 1073741824 then some (.tuple [.int (i / j), .int (i % j)]) else none
  | _ => none
theorem c_divmod {X : Cx} : CallR X (.builtin "divmod") (rDn X.K dDivmod .v) := by
  intro pins s σ H xs us Q I rx ⟨ω, N, ds, d, om, dom, hx, hg, k⟩
  match ds, hg, hx with
  | [.int i, .int j], hg, hx =>
    obtain ⟨v, u, rfl, h, h2⟩ := InBs.two hx
    cases h.int
    cases h2.int
    simp only [dDivmod] at hg
    split at hg
    · rename_i hj
      cases hg
      cases rx with
      | cons r1 rt =>
        cases rt with
        | cons r2 r3 =>
          cases r3
          obtain ⟨t1, rfl⟩ := r1
          obtain ⟨t2, rfl⟩ := r2
          have hp : H s.heap.objs.size = none := I.hok.fresh (Nat.le_refl _)
          have e1 : i.fdiv j = i / j := Int.fdiv_eq_ediv_of_nonneg i (by omega)
          have e2 : i.fmod j = i % j := Int.fmod_eq_emod_of_nonneg i (by omega)
          refine PyProof.Rows.divmod_int (by omega) ?_ (.inl (PyProof.noPylong_small (by omega)))
          rw [e1, e2]
          have q : QT Q H [.int (i / j), .int (i % j)] := fun p o hp od => k _ _ (same_new hp) (In.newTup (.cons (.int _) (.cons (.int _) .nil)) hp dom od)
          exact q.at (I.tok (s.toks + 1 + 1)) (ws := [.int (i / j) s.toks, .int (i % j) (s.toks + 1)]) (.cons ⟨_, rfl⟩ (.cons ⟨_, rfl⟩ .nil)) (by show 2 ≤ sizeLine; decide)
    · cases hg
end DL
end
section
set_option linter.all false
set_option maxRecDepth 100000
namespace DL
open PySem PySem.Spec PyProof.Rows L2
/-! ### sorted: whole numbers -/
def ins1 (x : Int) : List Int → List Int
  | [] => [x]
  | y :: ys => if x ≤ y then x :: y :: ys else y :: ins1 x ys
def srt : List Int → List Int
  | [] => []
  | x :: xs => ins1 x (srt xs)
theorem ins1_perm (x : Int) : ∀ ys, (ins1 x ys).Perm (x :: ys)
  | [] => List.Perm.refl _
  | y :: ys => by
    unfold ins1
    split
    · exact List.Perm.refl _
    · exact ((ins1_perm x ys).cons y).trans (List.Perm.swap ..)
theorem srt_perm : ∀ xs, (srt xs).Perm xs
  | [] => List.Perm.refl _
  | x :: xs => (ins1_perm x (srt xs)).trans ((srt_perm xs).cons x)
theorem ins1_sorted (x : Int) : ∀ {ys : List Int}, ys.Pairwise (· ≤ ·) → (ins1 x ys).Pairwise (· ≤ ·)
  | [], _ => List.pairwise_singleton _ _
  | y :: ys, h => by
    have h := List.pairwise_cons.mp h
    unfold ins1
    split
    · rename_i xy
      refine List.pairwise_cons.mpr ⟨fun z hz => ?_, List.pairwise_cons.mpr h⟩
      rcases List.mem_cons.mp hz with rfl | hz
      · exact xy
      · exact Int.le_trans xy (h.1 z hz)
    · rename_i xy
      refine List.pairwise_cons.mpr ⟨fun z hz => ?_, ins1_sorted x h.2⟩
      rcases List.mem_cons.mp ((ins1_perm x ys).mem_iff.mp hz) with rfl | hz
      · omega
      · exact h.1 z hz
theorem srt_sorted : ∀ xs, (srt xs).Pairwise (· ≤ ·)
  | [] => List.Pairwise.nil
  | x :: xs => ins1_sorted x (srt_sorted xs)
theorem sorted_uniq : ∀ {a b : List Int}, a.Pairwise (· ≤ ·) → b.Pairwise (· ≤ ·) → a.Perm b → a = b
  | [], b, _, _, p => p.nil_eq
  | x :: a, [], _, _, p => absurd p.symm.nil_eq (by simp)
  | x :: a, y :: b, ha, hb, p => by
    have ha := List.pairwise_cons.mp ha
    have hb := List.pairwise_cons.mp hb
    have e : x = y := by
      have h1 : x ∈ y :: b := p.mem_iff.mp List.mem_cons_self
      have h2 : y ∈ x :: a := p.mem_iff.mpr List.mem_cons_self
      rcases List.mem_cons.mp h1 with e | h1
      · exact e
      · rcases List.mem_cons.mp h2 with e | h2
        · exact e.symm
        · exact Int.le_antisymm (ha.1 y h2) (hb.1 x h1)
    subst e
    rw [sorted_uniq ha.2 hb.2 (List.Perm.cons_inv p)]
def dSort : List D → Option D
  | [.list es] => match dNums es with
    | some ns => if ns.length < 64 then some (.list ((srt ns).map .int)) else none
    | none => none
  | _ => none
theorem c_sort {X : Cx} : CallR X (.builtin "sorted") (rDn X.K dSort .o) := by
  intro pins s σ H xs us Q I rx ⟨ω, N, ds, d, om, dom, hx, hg, k⟩
  match ds, hg, hx with
  | [.list es], hg, hx =>
    obtain ⟨v, rfl, h⟩ := InBs.one hx
    obtain ⟨a, ys, rfl, ha, h1⟩ := h.list
    simp only [dSort] at hg
    cases e : dNums es with
    | none => rw [e] at hg; cases hg
    | some ns =>
      rw [e] at hg
      dsimp only at hg
      split at hg
      · rename_i hl
        cases hg
        have := h1.nums e
        subst this
        refine cr_sorted pins s σ H _ us Q I rx ⟨a, ns, rfl, .inl (.inl ha), hl, fun ns' p hp hs hf => ?_⟩
        have eq : ns' = srt ns := sorted_uniq hs (srt_sorted ns) (hp.trans (srt_perm ns).symm)
        subst eq
        have hi : InAll X.K N H ((srt ns).map V.int) ((srt ns).map PyData.int) := by
          generalize srt ns = l
          induction l with
          | nil => exact .nil
          | cons x l ih => exact .cons (.int x) ih
        exact k _ _ (same_new hf) (RK.newLst hi hf)
      · cases hg
end DL
end
section
set_option linter.all false
set_option maxRecDepth 100000
namespace DL
open PySem PySem.Spec PyProof.Rows L2
/-! ### a new tuple, known by its one object; count -/
def dTupT : List D → Option D
  | [.list es] => some (.tuple es)
  | _ => none
theorem plain_ok {P : Program} {w : World} {H : Hp} {h : Heap} {p : Addr} {vs : List V} {its : List Value} (r : Vals vs its) (hz : its.length ≤ sizeLine) (e : h.get? p = some ({ cls := .type "tuple", data := .seq its.toArray } : Obj)) : ObjOk P w H h p (PlainT p vs) :=
  ⟨⟨its, r, hz, e⟩, ⟨_, e⟩, fun _ _ ⟨its, r, hz, e⟩ k => ⟨its, r, hz, k _ e⟩⟩
theorem c_tupleT {X : Cx} : CallR X (.type "tuple") (rDn X.K dTupT .t) := by
  intro pins s σ H xs us Q I rx ⟨ω, N, ds, d, om, dom, hx, hg, k⟩
  match ds, hg, hx with
  | [.list es], hg, hx =>
    obtain ⟨v, rfl, h⟩ := InBs.one hx
    obtain ⟨a, ys, rfl, ha, h1⟩ := h.list
    cases hg
    cases rx with
    | cons r1 rt =>
      cases rt
      cases r1
      obtain ⟨its, r', pl, hz⟩ := I.list (.inl (.inl ha))
      have hlen := r'.length
      refine call_tuple_list pl.isList (fun h' kp => ?_) (by rw [List.size_toArray, ← hlen]; exact hz)
      have I1 : Inv X pins σ H { s with heap := h' } := I.kept (t' := s.toks) kp
      have hp : H h'.objs.size = none := I1.hok.fresh (Nat.le_refl _)
      have I2 : Inv X pins σ (upd H h'.objs.size (PlainT h'.objs.size ys)) { s with heap := h'.push { cls := .type "tuple", data := .seq its.toArray } } :=
        I1.laid (t' := s.toks) (fun b o e => Heap.get?_push_of_some _ e) (Nat.le_refl _) (plain_ok r' (by rw [← hlen]; exact hz) (Heap.get?_push_size _ rfl))
      exact ⟨.ref h'.objs.size, _, I2, rfl, k _ _ (same_new hp) ⟨_, ys, es, rfl, rfl, hp, upd_same, h1.mono (fun _ z => .inl z) fun x o e _ => same_new hp x o e⟩⟩
section
variable {X : Cx} {o e : Expr} {es : List Expr} {to : TE} {t : TA} {name : Str} {apos cpos : Pos} {id : String} {r : V → List V → Hp → VK → Prop}
def tBMT (r : V → List V → Hp → VK → Prop) (to : TE) (t : TA) : TE := fun σ H Q => to σ H fun x H1 => (∃ p vs, x = .ref p ∧ H1 p = some (PlainT p vs)) ∧ t σ H1 fun xs H2 => r x xs H2 Q
theorem pe_bmT (pa : PlainAttrs "tuple") (slot : PySem.Slot "tuple" name id) (ty : typeOf (.builtin id) = pure (.type "method_descriptor")) (mt : MtR X id r) (po : PE X o to) (ha : PA X (e :: es) t)
    (base : attributeBase o name X.env (eval o X.env) = eval o X.env := by rfl)
    (few : ((backTo cpos (starEach (e :: es) X.env)).all (fun x => !x.1) && (backToKw cpos (keywordEach [] X.env)).all (fun x => x.1.isSome) && decide ((e :: es).length + ([] : List Keyword).length + (if ([] : List Keyword).isEmpty then 0 else 1) < 30)) = true := by rfl)
    (line : (apos.endLine == cpos.line) = true := by rfl) (st : starEach (e :: es) X.env = (false, eval e X.env) :: starEach es X.env := by rfl) (pl : (backTo cpos (starEach es X.env)).any (·.1) = false := by rfl) :
    PE X (.Call (.Attribute o name apos) (e :: es) [] cpos) (tBMT r to t) :=
  ⟨fun pins s σ H Q I h => wpAny_Call_method_late base few line rfl (thn (po.run pins s σ H _ I h) fun v s1 ⟨x, H1, I1, r1, ⟨p, vs, ex, hp⟩, q1⟩ => by
    subst ex
    have r0 := r1
    cases r1
    obtain ⟨its, _, _, ho⟩ := (I1.hok p _ hp).1
    have args := ha.run cpos pins s1 σ H1 _ I1 q1
    rw [st] at args
    refine ⟨"tuple", id, pa, slot, ty, ⟨_, ho, rfl⟩, fun a ea => ?_, ?_⟩
    · cases ea
      exact ⟨_, ho, rfl⟩
    · rw [st]
      refine Calls.callWith_builtin (by show (false || (backTo cpos (starEach es X.env)).any (·.1)) = false; rw [pl] <;> rfl) (Calls.evalArgs_plain ?_)
      exact thn args fun us s2 ⟨ws, H2, I2, r2, q2⟩ => mt pins s2 σ H2 _ ws _ us Q I2 r0 r2 q2)⟩
end
theorem count_same {α β : Type} {f : α → Bool} {g : β → Bool} : ∀ {us : List α} {ds : List β}, us.length = ds.length → (∀ (i : Nat) (u : α) (d : β), us[i]? = some u → ds[i]? = some d → f u = g d) → us.countP f = ds.countP g
  | [], [], _, _ => rfl
  | u :: us, d :: ds, l, h => by
    have ih := count_same (us := us) (ds := ds) (by simpa using l) fun i u d hu hd => h (i + 1) u d (by simpa using hu) (by simpa using hd)
    rw [List.countP_cons, List.countP_cons, ih, h 0 u d rfl rfl]
  | [], _ :: _, l, _ => by cases l
  | _ :: _, [], l, _ => by cases l
def rCntT (K : PySem.W.Frag) : V → List V → Hp → VK → Prop := fun x xs H Q => ∃ (p : Addr) (ys : List V) (y : V) (ds : List D) (d : D), x = V.ref p ∧ xs = [y] ∧ H p = some (PlainT p ys) ∧ DpAll K H ys ds ∧ Dp K H y d ∧ inOk d ds = true ∧ Q (.int ((ds.countP fun z => PyData.eqv z d : Nat))) H
theorem mt_cntT {X : Cx} (hu : X.A.units + 64 < cLine) : MtR X "tuple.count" (rCntT X.K) := by
  intro pins s σ H x xs v us Q I rx rxs h
  obtain ⟨p, ys, y, ds, d, rfl, rfl, hp, hys, hy, hok, q⟩ := h
  unfold inOk at hok
  rw [Bool.and_eq_true, Bool.and_eq_true] at hok
  obtain ⟨⟨c1, c2⟩, c3⟩ := hok
  cases rx
  cases rxs with
  | cons ry rt =>
    rename_i uy ut
    cases rt
    obtain ⟨its, rv, hz, ho⟩ := (I.hok p _ hp).1
    obtain ⟨as, ra⟩ := Dp.readsAll I ds ys its hys rv
    obtain ⟨bs, rb⟩ := Dp.reads I d y uy hy ry
    have cnt : its.countP (eqW its ds d) = ds.countP fun z => PyData.eqv z d := count_same (readsAll_len ra) fun i u dy h1 h2 => eqW_at ra h1 h2
    refine call_meets PySem.F.slot_tuple_count ⟨_, ho, rfl⟩ PySem.F.entry_tuple_count (PySem.F.args_tuple_count_2 _ _)
      (SeqAt.tuple_countAt p its.toArray _ _ _ uy (eqW its ds d)) ⟨ho, fun u hu' => eq_all I ra rb c1 (of_decide_eq_true c2) c3 hu u (by simpa using hu'), ?_⟩
    refine ⟨.int _, H, I.tok _, ⟨_, rfl⟩, ?_⟩
    rw [show its.toArray.toList.countP (eqW its ds d) = ds.countP fun z => PyData.eqv z d from cnt]
    exact q
def eCntT (f fy : FE) : FE := fun env => (f env).bind fun d => match d with
  | .tuple ds => (fy env).bind fun y => if inOk y ds = true then .ret (.int ((ds.countP fun z => PyData.eqv z y : Nat))) else .fail
  | _ => .fail
theorem xe_cntT {X : Cx} {e : Expr} {f fy : FE} (h : PE X e (tBMT (rCntT X.K) (tX X.K .t f) (tCons (tX X.K .b fy) tNil))) : XE X .v e (eCntT f fy) := weak h fun σ H Q ⟨ω, N, E, b, env, r, q⟩ => by
  refine ⟨ω, N, E, b, env, r, Tr.All_mono ((Tr.All_bind _ _ _ _).mp q) fun d c qa v H1 k1 o1 i1 => ?_⟩
  obtain ⟨p, vs, ds, rfl, rfl, hp, hH, h1⟩ := i1
  refine ⟨⟨p, vs, rfl, hH⟩, ω, N, E, c, env, r.move k1 o1, Tr.All_mono ((Tr.All_bind _ _ _ _).mp qa) fun y c2 qb u H2 k2 o2 i2 => ?_⟩
  have i2 : InB X.K ω N H2 u y := i2
  have no : ¬ OmAt ω p := fun z => r.dom p (r.om p z) hp
  have h2 : InAll X.K N H2 vs ds := h1.keep r.om k2
  have hH2 := k2 _ _ hH no
  split at qb
  · rename_i hk
    have c3 : ds.all PyData.canLay0 = true ∧ y.canLay0 = true := by
      have := hk
      unfold inOk at this
      rw [Bool.and_eq_true, Bool.and_eq_true] at this
      exact ⟨this.2, this.1.1⟩
    exact ⟨p, vs, u, ds, y, rfl, rfl, hH2, h2.dp (noDictAll c3.1), i2.dp (PyData.hasDict_of_canLay y c3.2), hk, qb _ H2 (k1.trans k2) o2 (.int _)⟩
  · exact qb.elim
end DL
end
section
set_option linter.all false
set_option maxRecDepth 100000
namespace DL
open PySem PySem.Spec PyProof.Rows L2 RZ
/-! ### zip of two lists or of two tuples -/
def zipD : List D → List D → List D
  | x :: xs, y :: ys => .tuple [x, y] :: zipD xs ys
  | [], _ => []
  | _ :: _, [] => []
theorem zip_len : ∀ (xs ys : List D), (zipD xs ys).length = min xs.length ys.length
  | [], _ => by simp [zipD]
  | _ :: _, [] => by simp [zipD]
  | x :: xs, y :: ys => by
    show (zipD xs ys).length + 1 = min (xs.length + 1) (ys.length + 1)
    rw [zip_len xs ys]
    omega
theorem zip_at : ∀ (xs ys : List D) (i : Nat) (x y : D), xs[i]? = some x → ys[i]? = some y → (zipD xs ys)[i]? = some (.tuple [x, y])
  | [], _, _, _, _, h, _ => by simp at h
  | _ :: _, [], _, _, _, _, h => by simp at h
  | a :: xs, b :: ys, 0, x, y, h, k => by
    have e1 : a = x := by simpa using h
    have e2 : b = y := by simpa using k
    subst e1 e2
    rfl
  | a :: xs, b :: ys, i + 1, x, y, h, k => zip_at xs ys i x y (by simpa using h) (by simpa using k)
section
variable {K : PySem.W.Frag} {N : Addr → Prop} {H : Hp} {a b : Addr} {ds es : List D}
theorem src_zipL (h : In K N H (.ref a) (.list ds)) (g : In K N H (.ref b) (.list es)) (n : ds = [] ∨ es = []) : Src K N H (Itz K a b) [] where
  go := fun i N' HB p dom hIi => absurd hIi (Nat.not_lt_zero i)
  stop := fun N' HB p => by
    obtain ⟨a', xs, ea, ha, h1⟩ := (p _ _ h).list_inv
    cases ea
    obtain ⟨b', ys, eb, hb, g1⟩ := (p _ _ g).list_inv
    cases eb
    refine ⟨xs, ys, .inl (.inl ha), .inl (.inl hb), ?_⟩
    rw [h1.length, g1.length]
    exact n.imp (fun e => by rw [e]; exact Nat.le_refl _) fun e => by rw [e]; exact Nat.le_refl _
theorem src_zipT (h : In K N H (.ref a) (.tuple ds)) (g : In K N H (.ref b) (.tuple es)) (n : ds = [] ∨ es = []) : Src K N H (ItzT K a b) [] where
  go := fun i N' HB p dom hIi => absurd hIi (Nat.not_lt_zero i)
  stop := fun N' HB p => by
    obtain ⟨a', xs, ea, ha, h1⟩ := (p _ _ h).tuple_inv
    cases ea
    obtain ⟨b', ys, eb, hb, g1⟩ := (p _ _ g).tuple_inv
    cases eb
    refine ⟨xs, ys, ha, hb, ?_⟩
    rw [h1.length, g1.length]
    exact n.imp (fun e => by rw [e]; exact Nat.le_refl _) fun e => by rw [e]; exact Nat.le_refl _
end
/-- what zip(x, y) gives: for now where one of the two is empty (the pairs of the others are not known by their objects) -/
def zipOf : List D → Option (List D)
  | [.list a, .list b] => if a.isEmpty || b.isEmpty then some [] else none
  | [.tuple a, .tuple b] => if a.isEmpty || b.isEmpty then some [] else none
  | _ => none
def sForZ (r : FL) (tgt : FG) (body : FS) : FS := fun env => (r env).bind fun ds => match zipOf ds with
  | some zs => forD tgt body zs env
  | none => .fail
def eCompZ (r : FL) (tgt : FG) (t : FT) (fe : FE) (vs : List Nat) : FE := fun env => (r env).bind fun ds => match zipOf ds with
  | some zs => endComp tgt t fe (wipeE env vs) zs
  | none => .fail
theorem zipOf_inv {K : PySem.W.Frag} {N : Addr → Prop} {H : Hp} {vs : List V} {ds zs : List D} (e : zipOf ds = some zs) (h : InAll K N H vs ds) :
    ∃ a b xs ys, vs = [.ref a, .ref b] ∧ ((SqL K H a xs ∧ SqL K H b ys ∧ Src K N H (Itz K a b) zs) ∨ (SqT K H a xs ∧ SqT K H b ys ∧ Src K N H (ItzT K a b) zs)) := by
  have em : ∀ {a b : List D}, (if (a.isEmpty || b.isEmpty) = true then some [] else none : Option (List D)) = some zs → zs = [] ∧ (a = [] ∨ b = []) := fun {a b} z => by
    by_cases q : (a.isEmpty || b.isEmpty) = true
    · rw [if_pos q] at z
      rw [Bool.or_eq_true] at q
      exact ⟨(Option.some.inj z).symm, q.imp List.isEmpty_iff.mp List.isEmpty_iff.mp⟩
    · rw [if_neg q] at z
      cases z
  unfold zipOf at e
  split at e
  · rename_i x y
    obtain ⟨rfl, ne⟩ := em e
    match vs, h with
    | [u, v], .cons h1 (.cons h2 .nil) =>
      have i1 := h1
      have i2 := h2
      obtain ⟨a, xs, rfl, ha, _⟩ := In.list_inv h1
      obtain ⟨b, ys, rfl, hb, _⟩ := In.list_inv h2
      exact ⟨a, b, xs, ys, rfl, .inl ⟨.inl (.inl ha), .inl (.inl hb), src_zipL i1 i2 ne⟩⟩
  · rename_i x y
    obtain ⟨rfl, ne⟩ := em e
    match vs, h with
    | [u, v], .cons h1 (.cons h2 .nil) =>
      have i1 := h1
      have i2 := h2
      obtain ⟨a, xs, rfl, ha, _⟩ := In.tuple_inv h1
      obtain ⟨b, ys, rfl, hb, _⟩ := In.tuple_inv h2
      exact ⟨a, b, xs, ys, rfl, .inr ⟨ha, hb, src_zipT i1 i2 ne⟩⟩
  · cases e
section
variable {X : Cx} {k : Kd} {sTt : Stmt} {e : Expr}
theorem xs_forZ {r : FL} {tgt : FG} {body : FS} (h : PS X sTt (tFor (iZipA X.K (tL X.K r)) (tG X.K tgt) (tS X.K k body))) : XS X k sTt (sForZ r tgt body) :=
  weakS h fun D' σ H ⟨ω, N0, N, E, b, env, r, n0, e0, q⟩ => by
  refine ⟨ω, N, E, b, env, r, Tr.All_mono ((Tr.All_bind _ _ _ _).mp q) fun ds c qa vs HA k1 o1 i1 => ?_⟩
  have rA := r.move k1 o1
  have p1 := Pres.keep (K := X.K) r.om k1
  cases ez : zipOf ds with
  | none => simp only [ez] at qa; exact qa.elim
  | some zs =>
    simp only [ez] at qa
    obtain ⟨x, y, xs, ys, ev, hh⟩ := zipOf_inv ez i1
    refine ⟨x, y, xs, ys, ev, ?_⟩
    rcases hh with ⟨h1, h2, S⟩ | ⟨h1, h2, S⟩
    · exact .inl ⟨h1, h2, walk_src rA n0 e0 p1 S qa⟩
    · exact .inr ⟨h1, h2, walk_src rA n0 e0 p1 S qa⟩
theorem rd_compZ {r : FL} {fe : FE} {g : TG} {tgt : FG} {tt : TT} {ft : FT} {vs : List Nat} (hg : OwnTg X.K g tgt vs) (htt : ∀ σ H Q, tY X.K ft σ H Q → tt σ H Q) : ∀ σ H Q, tX X.K .o (eCompZ r tgt ft fe vs) σ H Q → (tLc (iZipA X.K (tL X.K r)) g tt (tX X.K .v fe) vs) σ H Q :=
  fun σ H Q ⟨ω, N, E, b, env, rr, q⟩ => by
  refine ⟨ω, N, E, b, env, rr, Tr.All_mono ((Tr.All_bind _ _ _ _).mp q) fun ds c qa us H1 k1 o1 i1 => ?_⟩
  have r1 := rr.move k1 o1
  cases ez : zipOf ds with
  | none => simp only [ez] at qa; exact qa.elim
  | some zs =>
    simp only [ez] at qa
    obtain ⟨x, y, xs, ys, ev, hh⟩ := zipOf_inv ez i1
    refine ⟨x, y, xs, ys, ev, ?_⟩
    rcases hh with ⟨h1, h2, S⟩ | ⟨h1, h2, S⟩
    · exact .inl ⟨h1, h2, comp_core2 (g := g) (tt := tt) (ds := zs) r1 k1 (fun i H2 N' _ p dom hi => S.go i N' H2 p dom hi) (fun H2 k2 => S.stop N H2 (Pres.keep r1.om k2)) hg htt qa⟩
    · exact .inr ⟨h1, h2, comp_core2 (g := g) (tt := tt) (ds := zs) r1 k1 (fun i H2 N' _ p dom hi => S.go i N' H2 p dom hi) (fun H2 k2 => S.stop N H2 (Pres.keep r1.om k2)) hg htt qa⟩
theorem xe_compZ {r : FL} {fe : FE} {g : TG} {tgt : FG} {tt : TT} {ft : FT} {vs : List Nat} (hg : OwnTg X.K g tgt vs) (htt : ∀ σ H Q, tY X.K ft σ H Q → tt σ H Q) (h : PE X e (tLc (iZipA X.K (tL X.K r)) g tt (tX X.K .v fe) vs)) : XE X .o e (eCompZ r tgt ft fe vs) := weak h (rd_compZ hg htt)
end
/-! ### a dict comprehension -/
def dcompD (tgt : FG) (t : FT) (fk fv : FE) (env : Ev) : List D → List (D × D) → Tr (List (D × D))
  | [], es => .ret es
  | d :: ds, es => match tgt d env with
    | some env1 => (t env1).bind fun b => if b = true then (fk env1).bind fun y => (fv env1).bind fun z => match keyOf y with
        | some k => dcompD tgt t fk fv env ds (putD es k z)
        | none => .fail
      else dcompD tgt t fk fv env ds es
    | none => .fail
def endDC (tgt : FG) (t : FT) (fk fv : FE) (env : Ev) (ds : List D) : Tr D := if ds.length ≤ sizeLine then (dcompD tgt t fk fv env ds []).bind fun es => .ret (.dict es) else .fail
theorem putK_len {kvs : List (Key × V)} {k : Key} {v : V} : (putK kvs k v).length ≤ kvs.length + 1 := by
  unfold putK
  split
  · rw [List.length_map]; omega
  · rw [List.length_append]; exact Nat.le_refl _
theorem dcomp_core {K : PySem.W.Frag} {ω : Option Om} {N : Addr → Prop} {E H H1 : Hp} {b : Nat} {env : Ev} {σ : L2.St} {J : It} {ds : List D} {g : TG} {tgt : FG} {tt : TT} {ft : FT} {fk fv : FE} {vs : List Nat} {Q : VK}
    (r : RepE K ω N E H1 b env σ) (hk : Keep ω H H1) (hgo : ∀ i H2 N', Keep ω H1 H2 → Pres K N N' H1 H2 → (∀ x, N' x → H2 x ≠ none) → i < ds.length → J.go i H2 ∧ ∀ x H', J.yld i H2 x H' → Same H2 H' ∧ ∃ d, ds[i]? = some d ∧ In K N' H' x d) (hst : ∀ H2, Keep ω H1 H2 → J.stop ds.length H2)
    (hg : OwnTg K g tgt vs) (htt : ∀ σ H Q, tY K ft σ H Q → tt σ H Q)
    (q : (endDC tgt ft fk fv (wipeE env vs) ds).All b fun d c => ∀ v H', Keep ω H H' → OrcO ω c H' → RK K ω N H H' .o v d → Q v H') :
    ∀ D, H1 D = none → ∃ W : Nat → Nat → Hp → Prop, (∃ m, W 0 m (upd H1 D (.dK []))) ∧ ∀ i m H, W i m H →
      (J.stop i H ∧ Q (.ref D) H) ∨ (J.go i H ∧ ∃ Nx : Hp → Prop, (∀ H', Nx H' → ∃ m', m' < m ∧ W (i + 1) m' H') ∧ ∀ x H', J.yld i H x H' → g x (wipe σ vs) H' fun σ2 H2 => wipe σ2 vs = wipe σ vs ∧ tt σ2 H2 fun b H3 =>
        if b = true then tX K .b fk σ2 H3 fun y H4 => tX K .v fv σ2 H4 fun z H5 => ∃ kvs k, y = kV k ∧ H5 D = some (.dK kvs) ∧ kvs.length < sizeLine ∧ Nx (upd H5 D (.dK (putK kvs k z))) else Nx H3) := by
  intro D0 hD
  have nD : ¬ N D0 := fun z => r.dom _ z hD
  have noD : ¬ OmAt ω D0 := fun z => nD (r.om _ z)
  have om' : ∀ x, OmAt ω x → addN N D0 x := fun x z => .inl (r.om x z)
  unfold endDC at q
  by_cases hz : ds.length ≤ sizeLine
  · rw [if_pos hz] at q
    have q := (Tr.All_bind _ _ _ _).mp q
    have s0 : Same H1 (upd H1 D0 (.dK [])) := same_new hD
    have p0 : Pres K N (addN N D0) H1 (upd H1 D0 (.dK [])) := fun v d h => h.mono (fun x z => z.elim .inl fun e => .inr (by rw [e]; exact hD)) fun x o e _ => s0 x o e
    -- what stands between two turns
    let Inv2 : Nat → Hp → Prop := fun i H2 => ∃ c acc es, Keep ω H1 H2 ∧ Pres K N (addN N D0) H1 H2 ∧ RepE K ω (addN N D0) E H2 c (wipeE env vs) (wipe σ vs) ∧ H2 D0 = some (.dK acc) ∧ InKV K (addN N D0) H2 acc es ∧ acc.length ≤ i ∧
        (dcompD tgt ft fk fv (wipeE env vs) (ds.drop i) es).All c fun zs c2 => ∀ v H', Keep ω H H' → OrcO ω c2 H' → RK K ω N H H' .o v (.dict zs) → Q v H'
    have next : ∀ i H4 c4 acc es (kk : Key) y dy, i < ds.length → Keep ω H1 H4 → Pres K N (addN N D0) H1 H4 → RepE K ω (addN N D0) E H4 c4 (wipeE env vs) (wipe σ vs) → H4 D0 = some (.dK acc) → InKV K (addN N D0) H4 acc es → acc.length ≤ i → In K (addN N D0) H4 y dy →
        ((dcompD tgt ft fk fv (wipeE env vs) (ds.drop (i + 1)) (putD es kk dy)).All c4 fun zs c2 => ∀ v H', Keep ω H H' → OrcO ω c2 H' → RK K ω N H H' .o v (.dict zs) → Q v H') → Inv2 (i + 1) (upd H4 D0 (.dK (putK acc kk y))) := by
      intro i H4 c4 acc es kk y dy hi k4 p4 r4 e4 i4 l4 iy q4
      have pw : Pres K (addN N D0) (addN N D0) H4 (upd H4 D0 (.dK (putK acc kk y))) := pres_write (.inr rfl)
      refine ⟨c4, putK acc kk y, putD es kk dy, fun x o e n => ?_, p4.trans pw, ?_, upd_same, ?_, Nat.le_trans putK_len (Nat.succ_le_succ l4), q4⟩
      · rw [upd_ne (fun z => by rw [z, hD] at e; cases e)]
        exact k4 x o e n
      · refine ⟨r4.len, fun j s e => ?_, r4.sep, fun x hx => ?_, r4.om, orc_upd r4.orc noD, fun x o e n => ?_⟩
        · obtain ⟨v, e1, h⟩ := r4.slot j s e
          refine ⟨v, e1, ?_⟩
          cases s with
          | val d => exact pw _ _ h
          | own d =>
            obtain ⟨a, e2, na, no, ea, h⟩ := h
            have aD : a ≠ D0 := by
              rintro rfl
              obtain ⟨v0, e0, a0, e00, n0, no0, ea0, h0⟩ := r.slot j _ (wipeE_some e).1
              have e1' : σ[j]? = some (some v) := by rw [← wipe_at (wipeE_some e).2]; exact e1
              rw [e0] at e1'
              cases e1'
              rw [e00] at e2
              cases e2
              obtain ⟨o0, z0⟩ := h0.there
              rw [hD] at z0
              cases z0
            exact ⟨a, e2, na, no, ea, h.mono (fun _ z => .inl z) (fun x o e n => by rw [upd_ne (fun z => n (.inr z))]; exact e) (upd_ne aD)⟩
          | orc => exact h
        · by_cases z : x = D0
          · rw [z, upd_same]; exact fun q => nomatch q
          · rw [upd_ne z]; exact r4.dom x hx
        · have z : x ≠ D0 := fun z => by
            have := hk.none r.orc hD
            rw [z] at e
            have h1 : H1 D0 = some o := r.keep D0 o e noD
            rw [hD] at h1
            cases h1
          rw [upd_ne z]
          exact r4.keep x o e n
      · exact (i4.put iy).mono (fun _ z => .inl z) fun x o e n => by rw [upd_ne (fun z => n (.inr z))]; exact e
    refine ⟨fun i m H2 => Inv2 i H2 ∧ i + m = ds.length, ⟨ds.length, ⟨b, [], [], Keep.of s0, p0, (r.more (Keep.of s0) (r.orc.same s0) hD (by rw [upd_same]; exact fun z => nomatch z)).wipe vs, upd_same, .nil, Nat.zero_le _, q⟩, Nat.zero_add _⟩, fun i m H2 ⟨⟨c, acc, ys, kH, pH, r2, e2, i2, hl, q2⟩, em⟩ => ?_⟩
    by_cases hi : i < ds.length
    · obtain ⟨g1, g2⟩ := hgo i H2 _ kH pH r2.dom hi
      rw [List.drop_eq_getElem_cons hi] at q2
      refine .inr ⟨g1, Inv2 (i + 1), fun H3 z => ⟨m - 1, by omega, z, by omega⟩, fun x H3 hy => ?_⟩
      obtain ⟨sm, d, ed, hd⟩ := g2 x H3 hy
      have kS : Keep ω H2 H3 := Keep.of sm
      have r2 := r2.move kS (r2.orc.same sm)
      have e2 := sm _ _ e2
      have i2 : InKV K (addN N D0) H3 acc ys := i2.mono (fun _ z => .inl z) fun x o e n => kS x o e fun z => n (om' x z)
      have kH := kH.trans kS
      have pH := pH.trans (Pres.keep om' kS)
      rw [List.getElem?_eq_getElem hi] at ed
      cases ed
      have q2 : (match tgt ds[i] (wipeE env vs) with
        | some env1 => (ft env1).bind fun b => if b = true then (fk env1).bind fun y => (fv env1).bind fun z => match keyOf y with
            | some k => dcompD tgt ft fk fv (wipeE env vs) (ds.drop (i + 1)) (putD ys k z)
            | none => .fail
          else dcompD tgt ft fk fv (wipeE env vs) (ds.drop (i + 1)) ys
        | none => .fail : Tr (List (D × D))).All c fun zs c2 => ∀ v H', Keep ω H H' → OrcO ω c2 H' → RK K ω N H H' .o v (.dict zs) → Q v H' := q2
      cases et : tgt ds[i] (wipeE env vs) with
      | none => simp only [et] at q2; exact q2.elim
      | some env1 =>
        simp only [et] at q2
        refine hg ω _ E H3 c _ env1 _ x _ _ r2 hd et fun σ2 rσ hlen hag => ⟨wipe_eq (hlen.trans (wipe_length σ vs)) (fun i hi => (hag i hi).trans (wipe_at hi)), htt _ _ _ ⟨ω, addN N D0, E, c, env1, rσ, Tr.All_mono ((Tr.All_bind _ _ _ _).mp q2) fun t c3 qa H4 k4 o4 => ?_⟩⟩
        cases t with
        | true =>
          refine ⟨ω, addN N D0, E, c3, env1, rσ.move k4 o4, Tr.All_mono ((Tr.All_bind _ _ _ _).mp qa) fun y c4 qb v H5 k5 o5 i5 => ?_⟩
          have i5 : InB K ω (addN N D0) H5 v y := i5
          refine ⟨ω, addN N D0, E, c4, env1, (rσ.move k4 o4).move k5 o5, Tr.All_mono ((Tr.All_bind _ _ _ _).mp qb) fun z c5 qc u H6 k6 o6 i6 => ?_⟩
          cases ek : keyOf y with
          | none => simp only [ek] at qc; exact qc.elim
          | some kk =>
            simp only [ek] at qc
            have k46 := (k4.trans k5).trans k6
            exact ⟨acc, kk, key_val i5 ek, k46 _ _ e2 noD, Nat.lt_of_le_of_lt hl (Nat.lt_of_lt_of_le hi hz), next i H6 c5 acc ys kk u z hi (kH.trans k46) (pH.trans (Pres.keep om' k46)) (r2.move k46 o6) (k46 _ _ e2 noD) (i2.mono (fun _ z => .inl z) fun x o e n => k46 x o e fun z => n (om' x z)) hl i6 qc⟩
        | false =>
          exact ⟨c3, acc, ys, kH.trans k4, pH.trans (Pres.keep om' k4), r2.move k4 o4, k4 _ _ e2 noD, i2.mono (fun _ z => .inl z) (fun x o e n => k4 x o e fun z => n (om' x z)), Nat.le_succ_of_le hl, qa⟩
    · have ei : i = ds.length := by omega
      subst ei
      rw [List.drop_length] at q2
      refine .inl ⟨hst H2 kH, ?_⟩
      exact q2 (.ref D0) H2 (hk.trans kH) r2.orc ⟨D0, rfl, hk.none r.orc hD, acc, e2, i2⟩
  · rw [if_neg hz] at q
    exact q.elim
def eDCompZ (r : FL) (tgt : FG) (t : FT) (fk fv : FE) (vs : List Nat) : FE := fun env => (r env).bind fun ds => match zipOf ds with
  | some zs => endDC tgt t fk fv (wipeE env vs) zs
  | none => .fail
section
variable {X : Cx} {e : Expr}
theorem xe_dcompZ {r : FL} {fk fv : FE} {g : TG} {tgt : FG} {tt : TT} {ft : FT} {vs : List Nat} (hg : OwnTg X.K g tgt vs) (htt : ∀ σ H Q, tY X.K ft σ H Q → tt σ H Q) (h : PE X e (tDc (iZipA X.K (tL X.K r)) g tt (tX X.K .b fk) (tX X.K .v fv) vs)) : XE X .o e (eDCompZ r tgt ft fk fv vs) := weak h fun σ H Q ⟨ω, N, E, b, env, rr, q⟩ => by
  refine ⟨ω, N, E, b, env, rr, Tr.All_mono ((Tr.All_bind _ _ _ _).mp q) fun ds c qa us H1 k1 o1 i1 => ?_⟩
  have r1 := rr.move k1 o1
  cases ez : zipOf ds with
  | none => simp only [ez] at qa; exact qa.elim
  | some zs =>
    simp only [ez] at qa
    obtain ⟨x, y, xs, ys, ev, hh⟩ := zipOf_inv ez i1
    refine ⟨x, y, xs, ys, ev, ?_⟩
    rcases hh with ⟨h1, h2, S⟩ | ⟨h1, h2, S⟩
    · exact .inl ⟨h1, h2, dcomp_core (g := g) (tt := tt) (ds := zs) r1 k1 (fun i H2 N' _ p dom hi => S.go i N' H2 p dom hi) (fun H2 k2 => S.stop N H2 (Pres.keep r1.om k2)) hg htt qa⟩
    · exact .inr ⟨h1, h2, dcomp_core (g := g) (tt := tt) (ds := zs) r1 k1 (fun i H2 N' _ p dom hi => S.go i N' H2 p dom hi) (fun H2 k2 => S.stop N H2 (Pres.keep r1.om k2)) hg htt qa⟩
def eDCompS (f : FE) (tgt : FG) (t : FT) (fk fv : FE) (vs : List Nat) : FE := fun env => (f env).bind fun d => match d with
  | .list ds => endDC tgt t fk fv (wipeE env vs) ds
  | .tuple ds => endDC tgt t fk fv (wipeE env vs) ds
  | _ => .fail
theorem xe_dcompS {f : FE} {fk fv : FE} {g : TG} {tgt : FG} {tt : TT} {ft : FT} {vs : List Nat} (hg : OwnTg X.K g tgt vs) (htt : ∀ σ H Q, tY X.K ft σ H Q → tt σ H Q) (h : PE X e (tDc (iSeq X.K (tX X.K .v f)) g tt (tX X.K .b fk) (tX X.K .v fv) vs)) : XE X .o e (eDCompS f tgt ft fk fv vs) := weak h fun σ H Q ⟨ω, N, E, b, env, rr, q⟩ => by
  refine ⟨ω, N, E, b, env, rr, Tr.All_mono ((Tr.All_bind _ _ _ _).mp q) fun d c qa u H1 k1 o1 i1 => ?_⟩
  have r1 := rr.move k1 o1
  have i1 : In X.K N H1 u d := i1
  cases d with
  | list ds =>
    have i2 := i1
    obtain ⟨a, xs, rfl, ha, h1⟩ := In.list_inv i1
    have S := src_list i2
    exact ⟨a, rfl, .inl ⟨xs, .inl (.inl ha), dcomp_core (g := g) (tt := tt) (ds := ds) r1 k1 (fun i H2 N' _ p dom hi => S.go i N' H2 p dom hi) (fun H2 k2 => S.stop N H2 (Pres.keep r1.om k2)) hg htt qa⟩⟩
  | tuple ds =>
    have i2 := i1
    obtain ⟨a, xs, rfl, ha, h1⟩ := In.tuple_inv i1
    have S := src_tuple i2
    exact ⟨a, rfl, .inr ⟨xs, ha, dcomp_core (g := g) (tt := tt) (ds := ds) r1 k1 (fun i H2 N' _ p dom hi => S.go i N' H2 p dom hi) (fun H2 k2 => S.stop N H2 (Pres.keep r1.om k2)) hg htt qa⟩⟩
  | _ => exact qa.elim
/-- d.get(y, z), d own -/
def eDGet2 (i : Nat) (fk fx : FE) : FE := fun env => match env[i]? with
  | some (some (.own (.dict es))) => (fk env).bind fun y => (fx env).bind fun z => match keyOf y with
    | some k => .ret ((getD es k).getD z)
    | none => .fail
  | _ => .fail
theorem xe_dget2 {i : Nat} {fk fx : FE} (h : PE X e (tDGet2 (tVar i) (tX X.K .b fk) (tX X.K .v fx))) : XE X .v e (eDGet2 i fk fx) := weak h fun σ H Q ⟨ω, N, E, b, env, r, q⟩ => by
  unfold eDGet2 at q
  split at q
  · rename_i es hi
    obtain ⟨a, hs, na, no, ea, hd⟩ := own_dict (H1 := H) r hi
    obtain ⟨kvs0, e0, _⟩ := hd H Keep.refl
    refine ⟨_, hs, a, rfl, .inl ⟨kvs0, .inl e0⟩, ω, N, E, b, env, r, Tr.All_mono ((Tr.All_bind _ _ _ _).mp q) fun y c qa v H1 k1 o1 i1 => ?_⟩
    refine ⟨ω, N, E, c, env, r.move k1 o1, Tr.All_mono ((Tr.All_bind _ _ _ _).mp qa) fun z c2 qb u H2 k2 o2 i2 => ?_⟩
    cases ek : keyOf y with
    | none => simp only [ek] at qb; exact qb.elim
    | some kk =>
      simp only [ek] at qb
      have k12 := k1.trans k2
      obtain ⟨kvs, e1, h1⟩ := hd H2 k12
      have ev := key_val i1 ek
      subst ev
      have g := DGet.k (k := kk) e1
      rcases h1.get (k := kk) with ⟨z1, z2⟩ | ⟨w, d, z1, z2, hw⟩
      · rw [z2] at qb
        rw [z1] at g
        exact ⟨none, g, qb _ H2 k12 o2 i2⟩
      · rw [z2] at qb
        rw [z1] at g
        exact ⟨some w, g, qb _ H2 k12 o2 hw⟩
  · exact q.elim
end
end DL
end
section
set_option linter.all false
set_option maxRecDepth 100000
namespace DL
open PySem PySem.Spec PyProof.Rows L2
/-! ### index and count of a list or a tuple, whichever it is -/
def rIdxS (K : PySem.W.Frag) : V → List V → Hp → VK → Prop := fun x xs H Q => ∃ (a : Addr) (ys : List V) (y : V) (ds : List D) (d : D), x = V.ref a ∧ xs = [y] ∧ SqT K H a ys ∧ DpAll K H ys ds ∧ Dp K H y d ∧ inOk d ds = true ∧ memD d ds = true ∧ Q (.int ((ds.findIdx fun z => PyData.eqv z d : Nat))) H
def rCntS (K : PySem.W.Frag) : V → List V → Hp → VK → Prop := fun x xs H Q => ∃ (a : Addr) (ys : List V) (y : V) (ds : List D) (d : D), x = V.ref a ∧ xs = [y] ∧ SqT K H a ys ∧ DpAll K H ys ds ∧ Dp K H y d ∧ inOk d ds = true ∧ Q (.int ((ds.countP fun z => PyData.eqv z d : Nat))) H
theorem idx_true {f : D → Bool} : ∀ {ds : List D}, (ds.map f).idxOf true = ds.findIdx f
  | [] => rfl
  | d :: ds => by
    rw [List.map_cons, List.idxOf_cons, List.findIdx_cons, idx_true]
    cases f d <;> rfl
section
variable {X : Cx}
theorem mt_idxS (hu : X.A.units + 64 < cLine) : MtR X "tuple.index" (rIdxS X.K) := by
  intro pins s σ H x xs v us Q I rx rxs h
  obtain ⟨a, ys, y, ds, d, rfl, rfl, hs, hys, hy, hok, hm, q⟩ := h
  unfold inOk at hok
  rw [Bool.and_eq_true, Bool.and_eq_true] at hok
  obtain ⟨⟨c1, c2⟩, c3⟩ := hok
  cases rx
  cases rxs with
  | cons ry rt =>
    rename_i uy ut
    cases rt
    obtain ⟨its, rv, ht, hz⟩ := I.tuple hs
    obtain ⟨as, r1⟩ := Dp.readsAll I ds ys its hys rv
    obtain ⟨bs, r2⟩ := Dp.reads I d y uy hy ry
    have hl := readsAll_len r1
    refine PySem.SeqAt.call_tuple_index (ks := ds.map fun z => PyData.eqv z d) (k := true) (show s.heap.IsTuple a its.toArray from ht) ⟨by rw [List.length_map]; exact hl, fun j h1 h2 => ?_⟩ ?_ ?_
    · have h3 : j < ds.length := by rw [List.length_map] at h2; exact h2
      have e := eq_all I r1 r2 c1 (of_decide_eq_true c2) c3 hu its[j] (List.getElem_mem h1)
      rw [eqW_at r1 (List.getElem?_eq_getElem h1) (List.getElem?_eq_getElem h3)] at e
      have z : decide ((ds.map fun z => PyData.eqv z d)[j] = true) = PyData.eqv ds[j] d := by
        rw [List.getElem_map]
        cases PyData.eqv ds[j] d <;> rfl
      rw [z]
      exact e
    · unfold memD at hm
      obtain ⟨z, hz1, hz2⟩ := List.any_eq_true.mp hm
      exact List.mem_map.mpr ⟨z, hz1, hz2⟩
    · rw [idx_true]
      exact ⟨.int _, H, I.tok _, ⟨_, rfl⟩, q⟩
theorem mt_cntS (hu : X.A.units + 64 < cLine) : MtR X "tuple.count" (rCntS X.K) := by
  intro pins s σ H x xs v us Q I rx rxs h
  obtain ⟨a, ys, y, ds, d, rfl, rfl, hs, hys, hy, hok, q⟩ := h
  unfold inOk at hok
  rw [Bool.and_eq_true, Bool.and_eq_true] at hok
  obtain ⟨⟨c1, c2⟩, c3⟩ := hok
  cases rx
  cases rxs with
  | cons ry rt =>
    rename_i uy ut
    cases rt
    obtain ⟨its, rv, ⟨⟨cls, dd, data, sl⟩, ho, hc, n, hd⟩, hz⟩ := I.tuple hs
    simp only at hc hd
    subst hc hd
    obtain ⟨as, r1⟩ := Dp.readsAll I ds ys its hys rv
    obtain ⟨bs, r2⟩ := Dp.reads I d y uy hy ry
    have cnt : its.countP (eqW its ds d) = ds.countP fun z => PyData.eqv z d := count_same (readsAll_len r1) fun i u dy h1 h2 => eqW_at r1 h1 h2
    refine call_meets PySem.F.slot_tuple_count ⟨_, ho, rfl⟩ PySem.F.entry_tuple_count (PySem.F.args_tuple_count_2 _ _)
      (SeqAt.tuple_countAt a its.toArray n dd sl uy (eqW its ds d)) ⟨ho, fun u hu' => eq_all I r1 r2 c1 (of_decide_eq_true c2) c3 hu u (by simpa using hu'), ?_⟩
    refine ⟨.int _, H, I.tok _, ⟨_, rfl⟩, ?_⟩
    rw [show its.toArray.toList.countP (eqW its ds d) = ds.countP fun z => PyData.eqv z d from cnt]
    exact q
variable {o e : Expr} {es : List Expr} {to : TE} {t : TA} {name : Str} {apos cpos : Pos} {i1 i2 : String} {r1 r2 : V → List V → Hp → VK → Prop}
/-- a method of a list, or the one of the same name of a tuple -/
def tSqM (K : PySem.W.Frag) (r1 r2 : V → List V → Hp → VK → Prop) (to : TE) (t : TA) : TE := fun σ H Q => to σ H fun x H1 =>
  (tyV K "list" x H1 ∧ t σ H1 fun xs H2 => r1 x xs H2 Q) ∨ ((∃ a vs, x = .ref a ∧ (TupO H1 a vs ∨ TK K a vs)) ∧ t σ H1 fun xs H2 => r2 x xs H2 Q)
theorem pe_sqM (sl1 : PySem.Slot "list" name i1) (ty1 : typeOf (.builtin i1) = pure (.type "method_descriptor")) (m1 : MtR X i1 r1)
    (sl2 : PySem.Slot "tuple" name i2) (ty2 : typeOf (.builtin i2) = pure (.type "method_descriptor")) (m2 : MtR X i2 r2) (po : PE X o to) (ha : PA X (e :: es) t)
    (base : attributeBase o name X.env (eval o X.env) = eval o X.env := by rfl)
    (few : ((backTo cpos (starEach (e :: es) X.env)).all (fun x => !x.1) && (backToKw cpos (keywordEach [] X.env)).all (fun x => x.1.isSome) && decide ((e :: es).length + ([] : List Keyword).length + (if ([] : List Keyword).isEmpty then 0 else 1) < 30)) = true := by rfl)
    (line : (apos.endLine == cpos.line) = true := by rfl) (st : starEach (e :: es) X.env = (false, eval e X.env) :: starEach es X.env := by rfl) (pl : (backTo cpos (starEach es X.env)).any (·.1) = false := by rfl) :
    PE X (.Call (.Attribute o name apos) (e :: es) [] cpos) (tSqM X.K r1 r2 to t) :=
  ⟨fun pins s σ H Q I h => wpAny_Call_method_late base few line rfl (thn (po.run pins s σ H _ I h) fun v s1 ⟨x, H1, I1, rx, q⟩ => by
    rcases q with ⟨ty, q⟩ | ⟨⟨a, vs, ex, hp⟩, q⟩
    · obtain ⟨z1, z2⟩ := tyV_is I1 rx ty
      have args := ha.run cpos pins s1 σ H1 _ I1 q
      rw [st] at args
      refine ⟨"list", i1, PySem.F.plainAttrs_list, sl1, ty1, z1, z2, ?_⟩
      rw [st]
      refine Calls.callWith_builtin (by show (false || (backTo cpos (starEach es X.env)).any (·.1)) = false; rw [pl] <;> rfl) (Calls.evalArgs_plain ?_)
      exact thn args fun us s2 ⟨ws, H2, I2, rs, q2⟩ => m1 pins s2 σ H2 _ ws _ us Q I2 rx rs q2
    · subst ex
      have r0 := rx
      cases rx
      obtain ⟨ob, ho, hc, hn⟩ := tuple_obj I1 hp
      have args := ha.run cpos pins s1 σ H1 _ I1 q
      rw [st] at args
      refine ⟨"tuple", i2, PySem.F.plainAttrs_tuple, sl2, ty2, ⟨_, ho, hc⟩, fun b eb => ?_, ?_⟩
      · cases eb
        exact ⟨_, ho, hn⟩
      · rw [st]
        refine Calls.callWith_builtin (by show (false || (backTo cpos (starEach es X.env)).any (·.1)) = false; rw [pl] <;> rfl) (Calls.evalArgs_plain ?_)
        exact thn args fun us s2 ⟨ws, H2, I2, rs, q2⟩ => m2 pins s2 σ H2 _ ws _ us Q I2 r0 rs q2)⟩
def eIdxM (f fy : FE) : FE := fun env => (f env).bind fun d => match d with
  | .list ds => (fy env).bind fun y => Tr.ofOpt (dIdxA ds y)
  | .tuple ds => (fy env).bind fun y => Tr.ofOpt (dIdxA ds y)
  | _ => .fail
theorem noDict1 {y : D} {ds : List D} (h : inOk y ds = true) : y.hasDict = false := by
  unfold inOk at h
  rw [Bool.and_eq_true, Bool.and_eq_true] at h
  exact PyData.hasDict_of_canLay y h.1.1
theorem noDict2 {y : D} {ds : List D} (h : inOk y ds = true) : PyData.hasDictAll ds = false := by
  unfold inOk at h
  rw [Bool.and_eq_true, Bool.and_eq_true] at h
  exact noDictAll h.2
theorem InB.tuple2 {K : PySem.W.Frag} {ω : Option Om} {N : Addr → Prop} {H : Hp} {v : V} {ds : List D} (h : InB K ω N H v (.tuple ds)) : In K N H v (.tuple ds) := by
  rcases h with h | ⟨_, _, _, h⟩
  · exact h
  · exact h.elim
theorem tupKeep {K : PySem.W.Frag} {ω : Option Om} {N : Addr → Prop} {H : Hp} {v : V} {ds : List D} (h : In K N H v (.tuple ds)) (om : ∀ x, OmAt ω x → N x) : ∃ a xs, v = .ref a ∧ (TupO H a xs ∨ TK K a xs) ∧ InAll K N H xs ds ∧ ∀ H2, Keep ω H H2 → SqT K H2 a xs := by
  cases h with
  | tup n r h =>
    have r0 := r
    obtain ⟨o, r, z⟩ := r
    exact ⟨_, _, rfl, .inl r0, h, fun H2 k => .inl (.inr ⟨o, k _ _ r fun z => n (om _ z)⟩)⟩
  | tupK r h => exact ⟨_, _, rfl, .inr r, h, fun H2 k => r.seq⟩
theorem xe_idxM {f fy : FE} (h : PE X e (tSqM X.K (rIdxD X.K) (rIdxS X.K) (tX X.K .b f) (tCons (tX X.K .b fy) tNil))) : XE X .v e (eIdxM f fy) := weak h fun σ H Q ⟨ω, N, E, b, env, r, q⟩ => by
  refine ⟨ω, N, E, b, env, r, Tr.All_mono ((Tr.All_bind _ _ _ _).mp q) fun d c qa v H1 k1 o1 i1 => ?_⟩
  have i1 : InB X.K ω N H1 v d := i1
  cases d with
  | list ds =>
    obtain ⟨a, xs, rfl, ha, h1, no⟩ := InB.list2 i1 r.om
    refine .inl ⟨.inl ⟨rfl, xs, .inl (.inl ha)⟩, ω, N, E, c, env, r.move k1 o1, Tr.All_mono ((Tr.All_bind _ _ _ _).mp qa) fun y c2 qb u H2 k2 o2 i2 => ?_⟩
    have i2 : InB X.K ω N H2 u y := i2
    unfold dIdxA at qb
    split at qb
    · rename_i hk
      exact ⟨a, xs, u, ds, y, rfl, rfl, .inl (.inl (k2 _ _ ha no)), (h1.keep r.om k2).dp (noDict2 hk.1), i2.dp (noDict1 hk.1), hk.1, hk.2, qb _ H2 (k1.trans k2) o2 (.int _)⟩
    · exact qb.elim
  | tuple ds =>
    obtain ⟨a, xs, rfl, ht, h1, hT⟩ := tupKeep i1.tuple2 r.om
    refine .inr ⟨⟨a, xs, rfl, ht⟩, ω, N, E, c, env, r.move k1 o1, Tr.All_mono ((Tr.All_bind _ _ _ _).mp qa) fun y c2 qb u H2 k2 o2 i2 => ?_⟩
    have i2 : InB X.K ω N H2 u y := i2
    unfold dIdxA at qb
    split at qb
    · rename_i hk
      exact ⟨a, xs, u, ds, y, rfl, rfl, hT _ k2, (h1.keep r.om k2).dp (noDict2 hk.1), i2.dp (noDict1 hk.1), hk.1, hk.2, qb _ H2 (k1.trans k2) o2 (.int _)⟩
    · exact qb.elim
  | _ => exact qa.elim
def eCntM (f fy : FE) : FE := fun env => (f env).bind fun d => match d with
  | .tuple ds => (fy env).bind fun y => if inOk y ds = true then .ret (.int ((ds.countP fun z => PyData.eqv z y : Nat))) else .fail
  | _ => .fail
def rNo : V → List V → Hp → VK → Prop := fun _ _ _ _ => False
theorem mt_no {id : String} : MtR X id rNo := fun _ _ _ _ _ _ _ _ _ _ _ _ h => h.elim
theorem xe_cntM {f fy : FE} (h : PE X e (tSqM X.K rNo (rCntS X.K) (tX X.K .b f) (tCons (tX X.K .b fy) tNil))) : XE X .v e (eCntM f fy) := weak h fun σ H Q ⟨ω, N, E, b, env, r, q⟩ => by
  refine ⟨ω, N, E, b, env, r, Tr.All_mono ((Tr.All_bind _ _ _ _).mp q) fun d c qa v H1 k1 o1 i1 => ?_⟩
  have i1 : InB X.K ω N H1 v d := i1
  cases d with
  | tuple ds =>
    obtain ⟨a, xs, rfl, ht, h1, hT⟩ := tupKeep i1.tuple2 r.om
    refine .inr ⟨⟨a, xs, rfl, ht⟩, ω, N, E, c, env, r.move k1 o1, Tr.All_mono ((Tr.All_bind _ _ _ _).mp qa) fun y c2 qb u H2 k2 o2 i2 => ?_⟩
    have i2 : InB X.K ω N H2 u y := i2
    split at qb
    · rename_i hk
      exact ⟨a, xs, u, ds, y, rfl, rfl, hT _ k2, (h1.keep r.om k2).dp (noDict2 hk), i2.dp (noDict1 hk), hk, qb _ H2 (k1.trans k2) o2 (.int _)⟩
    · exact qb.elim
  | _ => exact qa.elim
end
end DL
end
section
set_option linter.all false
set_option maxRecDepth 100000
namespace T27
open PySem PySem.Spec PyProof.Rows L2 DL
def topS (i : Nat) : Stmt := PySem.Challenge.pw_hookedcords_k27_whole_leftovers_of_great.main.body.getD i (.Pass ⟨0, 0, 0, 0⟩)
structure Bt (K : PySem.W.Frag) (mg : Str → Option Value) : Prop where
  b_all : mg "all" = none
  b_any : mg "any" = none
  b_bool : mg "bool" = none
  b_dict : mg "dict" = none
  b_divmod : mg "divmod" = none
  b_enumerate : mg "enumerate" = none
  b_int : mg "int" = none
  b_isinstance : mg "isinstance" = none
  b_len : mg "len" = none
  b_list : mg "list" = none
  b_max : mg "max" = none
  b_min : mg "min" = none
  b_range : mg "range" = none
  b_repr : mg "repr" = none
  b_set : mg "set" = none
  b_sorted : mg "sorted" = none
  b_str : mg "str" = none
  b_sum : mg "sum" = none
  b_tuple : mg "tuple" = none
  b_type : mg "type" = none
  b_zip : mg "zip" = none
  c_MOST_CORDS : ∃ t, mg "MOST_CORDS" = some (.int 5 t)
  c_MOST_TIMES : ∃ t, mg "MOST_TIMES" = some (.int 1000000000 t)
section
variable {P : Program} {w : World} {K : PySem.W.Frag} {mg : Str → Option Value} {base : Heap}
abbrev s_is_between : Stmt := topS 7
abbrev N_is_between : List Str := ["value", "least", "most"]
theorem sc_is_between : FnScope N_is_between ["value", "least", "most"] (defScope s_is_between) := ⟨rfl, rfl, rfl, by decide +kernel, rfl, by decide +kernel, by decide +kernel⟩
def m_is_between : List Slot → Tr D := fnF 3 .v (sRet (vAnd (eTy false "int" (eVar 0)) (eChain dLe dLe (eVar 1) (eVar 0) (eVar 2))))
theorem ok_is_between {f : Addr} {fd : FuncData} (F : Fun K "is_between" "is_between" s_is_between f fd) (B : Bt K mg)  : FnG P w K mg base 1 f fd ["value", "least", "most"] (spD K .v 3 m_is_between) :=
  fn_ok F sc_is_between fun cdv A outer s H E hr hgd => (have hu := hr.units; have hu1 := hu_of hr; have nd := sc_is_between.nd; (xss_one (xs_ret (by decide) (xe_and (xe_isTy (pe_cmpR op_isTyB (pe_callTy call_type1 (by rfl) B.b_type (by decide +kernel) (pa_cons (xe_vb (xe_var (pv 0))) pa_nil)) (pe_bltn (v := .ty "int") (by rfl) B.b_int (by decide +kernel) rfl) (nomark _))) (xe_one (xe_chain o_le o_le (xe_vb (xe_var (pv 1))) (xe_vb (xe_var (pv 0))) (xe_vb (xe_var (pv 2)))))))))
abbrev s_need_number : Stmt := topS 8
abbrev N_need_number : List Str := ["value", "least", "most"]
theorem sc_need_number : FnScope N_need_number ["value", "least", "most"] (defScope s_need_number) := ⟨rfl, rfl, rfl, by decide +kernel, rfl, by decide +kernel, by decide +kernel⟩
def m_need_number : List Slot → Tr D := fnF 3 .v (sIf (bNot (tt (eCall m_is_between (aVal (eVar 0) (aVal (eVar 1) (aVal (eVar 2) aNil)))))) (fun _ => .fail) sNext)
theorem ok_need_number {f : Addr} {fd : FuncData} (F : Fun K "need_number" "need_number" s_need_number f fd) (B : Bt K mg) (C_is_between : Cal P w K mg base "is_between" 1 ["value", "least", "most"] (spD K .v 3 m_is_between)) : FnG P w K mg base 2 f fd ["value", "least", "most"] (spD K .v 3 m_need_number) :=
  fn_ok F sc_need_number fun cdv A outer s H E hr hgd => (have hu := hr.units; have hu1 := hu_of hr; have nd := sc_need_number.nd; (xss_one (xs_if (xt_not (xt_val (xe_vb (xe_callC C_is_between (hr.mono (by omega)) hgd (by rfl) (xa_val (xe_var (pv 0)) (xa_val (xe_var (pv 1)) (xa_val (xe_var (pv 2)) xa_nil))) (argN_val (argN_val (argN_val argN_nil))))))) (xss_one xs_never) xss_nil)))
abbrev s_need_cords : Stmt := topS 9
abbrev N_need_cords : List Str := ["cords"]
theorem sc_need_cords : FnScope N_need_cords ["cords"] (defScope s_need_cords) := ⟨rfl, rfl, rfl, by decide +kernel, rfl, by decide +kernel, by decide +kernel⟩
def m_need_cords : List Slot → Tr D := fnF 1 .v (sIf (bNot (tt (eCall m_is_between (aVal (eVar 0) (aVal (eC (.int 1)) (aVal (eC (.int 5)) aNil)))))) (fun _ => .fail) sNext)
theorem ok_need_cords {f : Addr} {fd : FuncData} (F : Fun K "need_cords" "need_cords" s_need_cords f fd) (B : Bt K mg) (C_is_between : Cal P w K mg base "is_between" 1 ["value", "least", "most"] (spD K .v 3 m_is_between)) : FnG P w K mg base 2 f fd ["cords"] (spD K .v 1 m_need_cords) :=
  fn_ok F sc_need_cords fun cdv A outer s H E hr hgd => (have hu := hr.units; have hu1 := hu_of hr; have nd := sc_need_cords.nd; (xss_one (xs_if (xt_not (xt_val (xe_vb (xe_callC C_is_between (hr.mono (by omega)) hgd (by rfl) (xa_val (xe_var (pv 0)) (xa_val xe_int (xa_val (xe_globI (by rfl) B.c_MOST_CORDS) xa_nil))) (argN_val (argN_val (argN_val argN_nil))))))) (xss_one xs_never) xss_nil)))
abbrev s_wrong_point : Stmt := topS 10
abbrev N_wrong_point : List Str := ["figure", "fresh", "point", "piece"]
theorem sc_wrong_point : FnScope N_wrong_point ["figure"] (defScope s_wrong_point) := ⟨rfl, rfl, rfl, by decide +kernel, rfl, by decide +kernel, by decide +kernel⟩
def m_wrong_point : List Slot → Tr D := fnF 4 .v (sSeq (sSet 1 (eC (.int 0))) (sSeq (sForE (lCons (eVar 0) lNil) (gT 2 (gsCons (gN 2) (gsCons (gN 3) gsNil))) (sSeq (sIf (bNot (tt (eCall m_is_between (aVal (eVar 3) (aVal (eC (.int 0)) (aVal (eVar 1) aNil)))))) (sRet (eVar 2)) sNext) (sIf (tt (e2 dEq (eVar 3) (eVar 1))) (sSet 1 (e2 dAddA (eVar 1) (eC (.int 1)))) sNext))) (sRet (eC .none))))
theorem ok_wrong_point {f : Addr} {fd : FuncData} (F : Fun K "wrong_point" "wrong_point" s_wrong_point f fd) (B : Bt K mg) (C_is_between : Cal P w K mg base "is_between" 1 ["value", "least", "most"] (spD K .v 3 m_is_between)) : FnG P w K mg base 2 f fd ["figure"] (spD K .v 1 m_wrong_point) :=
  fn_ok F sc_wrong_point fun cdv A outer s H E hr hgd => (have hu := hr.units; have hu1 := hu_of hr; have nd := sc_wrong_point.nd; (xss_cons (xs_set (i := 1) nd rfl (Or.inl rfl) xe_int) (xss_cons (xs_forE (ps_for PassesOwn.never rfl (pi_enumT (by rfl) B.b_enumerate (xl_cons (xe_var (pv 0)) xl_nil)) (xg_tup rfl (xgs_cons (xg_name (pg_name (i := 2) nd rfl (Or.inl rfl))) (xgs_cons (xg_name (pg_name (i := 3) nd rfl (Or.inl rfl))) xgs_nil))) (xss_cons (xs_if (xt_not (xt_val (xe_vb (xe_callC C_is_between (hr.mono (by omega)) hgd (by rfl) (xa_val (xe_var (pv 3)) (xa_val xe_int (xa_val (xe_var (pv 1)) xa_nil))) (argN_val (argN_val (argN_val argN_nil))))))) (xss_one (xs_ret (by decide) (xe_var (pv 2)))) xss_nil) (xss_one (xs_if (xt_cmp (o_eq hu) (xe_vb (xe_var (pv 3))) (xe_vb (xe_var (pv 1))) (nomark _)) (xss_one (xs_set (i := 1) nd rfl (Or.inl rfl) (xe_op o_addA (xe_vb (xe_var (pv 1))) (xe_vb xe_int)))) xss_nil))))) (xss_one (xs_ret (by decide) xe_non)))))
abbrev s_need_figure : Stmt := topS 11
abbrev N_need_figure : List Str := ["cords", "figure", "point"]
theorem sc_need_figure : FnScope N_need_figure ["cords", "figure"] (defScope s_need_figure) := ⟨rfl, rfl, rfl, by decide +kernel, rfl, by decide +kernel, by decide +kernel⟩
def m_need_figure : List Slot → Tr D := fnF 3 .v (sSeq (sIf (bOr (fTy true "tuple" (eVar 1)) (tt (e2 dNe (eCB dLenA (lCons (eVar 1) lNil)) (e2 dMul (eC (.int 2)) (eVar 0))))) (fun _ => .fail) sNext) (sSeq (sSet 2 (eCall m_wrong_point (aVal (eVar 1) aNil))) (sIf (tt (e2 dNotN (eVar 2) (eC .none))) (fun _ => .fail) sNext)))
theorem ok_need_figure {f : Addr} {fd : FuncData} (F : Fun K "need_figure" "need_figure" s_need_figure f fd) (B : Bt K mg) (C_wrong_point : Cal P w K mg base "wrong_point" 2 ["figure"] (spD K .v 1 m_wrong_point)) : FnG P w K mg base 3 f fd ["cords", "figure"] (spD K .v 2 m_need_figure) :=
  fn_ok F sc_need_figure fun cdv A outer s H E hr hgd => (have hu := hr.units; have hu1 := hu_of hr; have nd := sc_need_figure.nd; (xss_cons (xs_if (PW.pt (xw_or (xt_isNotTy (pt_cmpR op_notTyB (pe_callTy call_type1 (by rfl) B.b_type (by decide +kernel) (pa_cons (xe_vb (xe_var (pv 1))) pa_nil)) (pe_bltn (v := .ty "tuple") (by rfl) B.b_tuple (by decide +kernel) rfl) (nomark _))) (xw_or1 (xt_cmp (o_ne hu) (xe_vb (xe_callB c_lenA (by rfl) B.b_len (by decide +kernel) (xlb_cons (xe_vb (xe_var (pv 1))) xlb_nil))) (xe_vb (xe_op o_mul (xe_vb xe_int) (xe_vb (xe_var (pv 0))))) (nomark _))))) (xss_one xs_never) xss_nil) (xss_cons (xs_set (i := 2) nd rfl (Or.inl rfl) (xe_callC C_wrong_point (hr.mono (by omega)) hgd (by rfl) (xa_val (xe_var (pv 1)) xa_nil) (argN_val argN_nil))) (xss_one (xs_if (xt_cmp o_notN (xe_vb (xe_var (pv 2))) (xe_vb xe_non) (nomark _)) (xss_one xs_never) xss_nil)))))
abbrev s_renumbered : Stmt := topS 13
abbrev N_renumbered : List Str := ["labels", "numbers", "figure", "label"]
theorem sc_renumbered : FnScope N_renumbered ["labels"] (defScope s_renumbered) := ⟨rfl, rfl, rfl, by decide +kernel, rfl, by decide +kernel, by decide +kernel⟩
def m_renumbered : List Slot → Tr D := fnF 4 .v (sSeq (sSetO 1 eDNew) (sSeq (sSetO 2 (eLst lNil)) (sSeq (sForS (eVar 0) (gN 3) (sSeq (sIf (tt (eDIn true 1 (eVar 3))) (sDPutD 1 (eVar 3) (eDLen 1)) sNext) (sApp 2 (eDGet 1 (eVar 3))))) (sRet (eCB dTuple (lCons (eVarB 2) lNil))))))
theorem ok_renumbered {f : Addr} {fd : FuncData} (F : Fun K "renumbered" "renumbered" s_renumbered f fd) (B : Bt K mg)  : FnG P w K mg base 1 f fd ["labels"] (spD K .v 1 m_renumbered) :=
  fn_ok F sc_renumbered fun cdv A outer s H E hr hgd => (have hu := hr.units; have hu1 := hu_of hr; have nd := sc_renumbered.nd; (xss_cons (xs_setO (i := 1) nd rfl (Or.inl rfl) xe_dnew) (xss_cons (xs_setO (i := 2) nd rfl (Or.inl rfl) (xe_lst xl_nil)) (xss_cons (xs_forS (ps_for PassesOwn.never rfl (pi_seq (xe_var (pv 0))) (xg_name (pg_name (i := 3) nd rfl (Or.inl rfl))) (xss_cons (xs_if (xt_dnotin (pt_cmp (pc_dnotin hu1 (xe_vb (xe_var (pv 3))) (pv 1)))) (xss_one (xs_dput (ps_dput hu1 (pv 1) (xe_vb (xe_var (pv 3))) (xe_dlen (pe_callB call_lenD (by rfl) B.b_len PySem.boot_len (pa_cons (pv 1) pa_nil))) rfl))) xss_nil) (xss_one (xs_app (ps_expr (pe_bm PySem.F.plainAttrs_list PySem.F.slot_list_append PySem.F.type_list_append mt_append (pv 2) (pa_cons (xe_dget (pe_dget hu1 (pv 1) (xe_vb (xe_var (pv 3))) (fun _ _ => rfl))) pa_nil)))))))) (xss_one (xs_ret (by decide) (xe_callT c_tuple (by rfl) B.b_tuple (by decide +kernel) (xlb_cons (xe_varB (pv 2)) xlb_nil))))))))
abbrev s_merged : Stmt := topS 14
abbrev N_merged : List Str := ["labels", "near", "far", "label"]
theorem sc_merged : FnScope N_merged ["labels", "near", "far"] (defScope s_merged) := ⟨rfl, rfl, rfl, by decide +kernel, rfl, by decide +kernel, by decide +kernel⟩
def m_merged : List Slot → Tr D := fnF 4 .v (sRet (eCompS (eVar 0) (gN 3) fYes (eIf (tt (e2 dEq (eVar 3) (eVar 2))) (eVar 1) (eVar 3)) [3]))
theorem ok_merged {f : Addr} {fd : FuncData} (F : Fun K "merged" "merged" s_merged f fd) (B : Bt K mg)  : FnG P w K mg base 1 f fd ["labels", "near", "far"] (spD K .v 3 m_merged) :=
  fn_ok F sc_merged fun cdv A outer s H E hr hgd => (have hu := hr.units; have hu1 := hu_of hr; have nd := sc_merged.nd; (xss_one (xs_ret (by decide) (xe_ov (xe_compS (own_name 3) yes_ok (pe_lc (own := [("label", 3)]) (g := (gName 3)) rfl nd (pi_seq (xe_vb (xe_var (pv 0)))) (blkOk_by (own := [("label", 3)]) (N := N_merged) (sc := defScope s_merged) (by decide +kernel)) (fun _ _ _ _ _ => pg_name (i := 3) nd rfl (Or.inl rfl)) (fun _ _ _ _ _ => pts_nil) (fun _ _ _ _ _ => (xe_if (xt_cmp (o_eq hu) (xe_vb (xe_var (pv 3))) (xe_vb (xe_var (pv 2))) (nomark _)) (xe_var (pv 1)) (xe_var (pv 3))))))))))
abbrev s_straight_figure : Stmt := topS 15
abbrev N_straight_figure : List Str := ["cords"]
theorem sc_straight_figure : FnScope N_straight_figure ["cords"] (defScope s_straight_figure) := ⟨rfl, rfl, rfl, by decide +kernel, rfl, by decide +kernel, by decide +kernel⟩
def m_straight_figure : List Slot → Tr D := fnF 1 .v (sRet (e2 dAddA (eRgT (lCons (eVar 0) lNil)) (eRgT (lCons (eVar 0) lNil))))
theorem ok_straight_figure {f : Addr} {fd : FuncData} (F : Fun K "straight_figure" "straight_figure" s_straight_figure f fd) (B : Bt K mg)  : FnG P w K mg base 1 f fd ["cords"] (spD K .v 1 m_straight_figure) :=
  fn_ok F sc_straight_figure fun cdv A outer s H E hr hgd => (have hu := hr.units; have hu1 := hu_of hr; have nd := sc_straight_figure.nd; (xss_one (xs_ret (by decide) (xe_op o_addA (xe_vb (xe_rgT1 (pe_tupRgF rfl (by rfl) B.b_tuple (prg_1 (by rfl) B.b_range (xe_vb (xe_var (pv 0))))))) (xe_vb (xe_rgT1 (pe_tupRgF rfl (by rfl) B.b_tuple (prg_1 (by rfl) B.b_range (xe_vb (xe_var (pv 0)))))))))))
abbrev s_put_together : Stmt := topS 16
abbrev N_put_together : List Str := ["cords", "figure", "other", "far_start", "lots", "place", "tops", "bottoms", "labels", "near", "far", "piece"]
theorem sc_put_together : FnScope N_put_together ["cords", "figure", "other"] (defScope s_put_together) := ⟨rfl, rfl, rfl, by decide +kernel, rfl, by decide +kernel, by decide +kernel⟩
def m_put_together : List Slot → Tr D := fnF 12 .v (sSeq (sSet 3 (e2 dAddA (eCB dMax1 (lCons (eVar 1) lNil)) (eC (.int 1)))) (sSeq (sSet 4 (eRgL (lCons (e2 dAddA (e2 dAddA (eVar 3) (eCB dMax1 (lCons (eVar 2) lNil))) (eC (.int 1))) lNil))) (sSeq (sForR (lCons (eVar 0) lNil) (gN 5) (sSeq (sSet 9 (e2 dIx (eVar 4) (e2 dIx (eVar 1) (e2 dAddA (eVar 0) (eVar 5))))) (sSeq (sSet 10 (e2 dIx (eVar 4) (e2 dAddA (eVar 3) (e2 dIx (eVar 2) (eVar 5))))) (sIf (tt (e2 dNe (eVar 9) (eVar 10))) (sSet 4 (eCall m_merged (aVal (eVar 4) (aVal (eVar 9) (aVal (eVar 10) aNil))))) sNext)))) (sSeq (sSet 6 (eCompS (eSl dSlA (eVar 1) oNone (oSome (eVar 0))) (gN 11) fYes (e2 dIx (eVar 4) (eVar 11)) [11])) (sSeq (sSet 7 (eCompS (eSl dSlA (eVar 2) (oSome (eVar 0)) oNone) (gN 11) fYes (e2 dIx (eVar 4) (e2 dAddA (eVar 3) (eVar 11))) [11])) (sSeq (sSet 8 (e2 dAddA (eVar 6) (eVar 7))) (sRet (eTup (lCons (eCall m_renumbered (aVal (eVar 8) aNil)) (lCons (e2 dSub (eLenSet (eVar 4)) (eLenSet (eVar 8))) lNil))))))))))
theorem ok_put_together {f : Addr} {fd : FuncData} (F : Fun K "put_together" "put_together" s_put_together f fd) (B : Bt K mg) (C_merged : Cal P w K mg base "merged" 1 ["labels", "near", "far"] (spD K .v 3 m_merged)) (C_renumbered : Cal P w K mg base "renumbered" 1 ["labels"] (spD K .v 1 m_renumbered)) : FnG P w K mg base 2 f fd ["cords", "figure", "other"] (spD K .v 3 m_put_together) :=
  fn_ok F sc_put_together fun cdv A outer s H E hr hgd => (have hu := hr.units; have hu1 := hu_of hr; have nd := sc_put_together.nd; (xss_cons (xs_set (i := 3) nd rfl (Or.inr rfl) (xe_op o_addA (xe_vb (xe_callB (c_max1 rfl) (by rfl) B.b_max (by decide +kernel) (xlb_cons (xe_vb (xe_var (pv 1))) xlb_nil))) (xe_vb xe_int))) (xss_cons (xs_set (i := 4) nd rfl (Or.inr rfl) (xe_ov (xe_rgL1 (pe_listRg rfl (by rfl) B.b_list (prg_1 (by rfl) B.b_range (xe_vb (xe_op o_addA (xe_vb (xe_op o_addA (xe_vb (xe_var (pv 3))) (xe_vb (xe_callB (c_max1 rfl) (by rfl) B.b_max (by decide +kernel) (xlb_cons (xe_vb (xe_var (pv 2))) xlb_nil))))) (xe_vb xe_int)))))))) (xss_cons (xs_forR1 (ps_for PassesOwn.never rfl (pi_range1 (by rfl) B.b_range (xlb_cons (xe_vb (xe_var (pv 0))) xlb_nil)) (xg_name (pg_name (i := 5) nd rfl (Or.inl rfl))) (xss_cons (xs_set (i := 9) nd rfl (Or.inl rfl) (xe_ix (xe_vb (xe_var (pv 4))) (xe_vb (xe_ix (xe_vb (xe_var (pv 1))) (xe_vb (xe_op o_addA (xe_vb (xe_var (pv 0))) (xe_vb (xe_var (pv 5))))) (fun _ _ => rfl))) (fun _ _ => rfl))) (xss_cons (xs_set (i := 10) nd rfl (Or.inl rfl) (xe_ix (xe_vb (xe_var (pv 4))) (xe_vb (xe_op o_addA (xe_vb (xe_var (pv 3))) (xe_vb (xe_ix (xe_vb (xe_var (pv 2))) (xe_vb (xe_var (pv 5))) (fun _ _ => rfl))))) (fun _ _ => rfl))) (xss_one (xs_if (xt_cmp (o_ne hu) (xe_vb (xe_var (pv 9))) (xe_vb (xe_var (pv 10))) (nomark _)) (xss_one (xs_set (i := 4) nd rfl (Or.inr rfl) (xe_callC C_merged (hr.mono (by omega)) hgd (by rfl) (xa_val (xe_var (pv 4)) (xa_val (xe_var (pv 9)) (xa_val (xe_var (pv 10)) xa_nil))) (argN_val (argN_val (argN_val argN_nil)))))) xss_nil))))) (lenN_cons lenN_nil)) (xss_cons (xs_setLcV (ps_setLc (i := 6) (own := [("piece", 11)]) (g := (gName 11)) rfl nd rfl rfl (sw_true rfl rfl rfl (by decide +kernel)) (pi_seq (xe_vb (xe_slice x_slA (xe_vb (xe_var (pv 1))) xo_none (xo_some (xe_vb (xe_var (pv 0))))))) (blkOk_by (own := [("piece", 11)]) (N := N_put_together) (sc := defScope s_put_together) (by decide +kernel)) (fun _ _ _ _ _ => pg_name (i := 11) nd rfl (Or.inl rfl)) (fun _ _ _ _ _ => pts_nil) (fun _ _ _ _ _ => (xe_ix (xe_vb (xe_var (pv 4))) (xe_vb (xe_var (pv 11))) (fun _ _ => rfl)))) (fun _ _ _ q => (rd_compS (own_name 11) yes_ok) _ _ _ (readOV q))) (xss_cons (xs_setLcV (ps_setLc (i := 7) (own := [("piece", 11)]) (g := (gName 11)) rfl nd rfl rfl (sw_true rfl rfl rfl (by decide +kernel)) (pi_seq (xe_vb (xe_slice x_slA (xe_vb (xe_var (pv 2))) (xo_some (xe_vb (xe_var (pv 0)))) xo_none))) (blkOk_by (own := [("piece", 11)]) (N := N_put_together) (sc := defScope s_put_together) (by decide +kernel)) (fun _ _ _ _ _ => pg_name (i := 11) nd rfl (Or.inl rfl)) (fun _ _ _ _ _ => pts_nil) (fun _ _ _ _ _ => (xe_ix (xe_vb (xe_var (pv 4))) (xe_vb (xe_op o_addA (xe_vb (xe_var (pv 3))) (xe_vb (xe_var (pv 11))))) (fun _ _ => rfl)))) (fun _ _ _ q => (rd_compS (own_name 11) yes_ok) _ _ _ (readOV q))) (xss_cons (xs_set (i := 8) nd rfl (Or.inl rfl) (xe_op o_addA (xe_vb (xe_var (pv 6))) (xe_vb (xe_var (pv 7))))) (xss_one (xs_ret (by decide) (xe_tup (xl_cons (xe_callC C_renumbered (hr.mono (by omega)) hgd (by rfl) (xa_val (xe_var (pv 8)) xa_nil) (argN_val argN_nil)) (xl_cons (xe_op o_sub (xe_vb (xe_lenSet (by rfl) B.b_len (by rfl) B.b_set (xe_vb (xe_var (pv 4))))) (xe_vb (xe_lenSet (by rfl) B.b_len (by rfl) B.b_set (xe_vb (xe_var (pv 8)))))) xl_nil))))))))))))
abbrev s_need_power : Stmt := topS 19
abbrev N_need_power : List Str := ["cords", "figure", "many"]
theorem sc_need_power : FnScope N_need_power ["cords", "figure", "many"] (defScope s_need_power) := ⟨rfl, rfl, rfl, by decide +kernel, rfl, by decide +kernel, by decide +kernel⟩
def m_need_power : List Slot → Tr D := fnF 3 .v (sSeq (sExpr (eCall m_need_cords (aVal (eVar 0) aNil))) (sSeq (sExpr (eCall m_need_figure (aVal (eVar 0) (aVal (eVar 1) aNil)))) (sExpr (eCall m_need_number (aVal (eVar 2) (aVal (eC (.int 0)) (aVal (eC (.int 1000000000)) aNil)))))))
theorem ok_need_power {f : Addr} {fd : FuncData} (F : Fun K "need_power" "need_power" s_need_power f fd) (B : Bt K mg) (C_need_cords : Cal P w K mg base "need_cords" 2 ["cords"] (spD K .v 1 m_need_cords)) (C_need_figure : Cal P w K mg base "need_figure" 3 ["cords", "figure"] (spD K .v 2 m_need_figure)) (C_need_number : Cal P w K mg base "need_number" 2 ["value", "least", "most"] (spD K .v 3 m_need_number)) : FnG P w K mg base 4 f fd ["cords", "figure", "many"] (spD K .v 3 m_need_power) :=
  fn_ok F sc_need_power fun cdv A outer s H E hr hgd => (have hu := hr.units; have hu1 := hu_of hr; have nd := sc_need_power.nd; (xss_cons (xs_expr (xe_vb (xe_callC C_need_cords (hr.mono (by omega)) hgd (by rfl) (xa_val (xe_var (pv 0)) xa_nil) (argN_val argN_nil)))) (xss_cons (xs_expr (xe_vb (xe_callC C_need_figure (hr.mono (by omega)) hgd (by rfl) (xa_val (xe_var (pv 0)) (xa_val (xe_var (pv 1)) xa_nil)) (argN_val (argN_val argN_nil))))) (xss_one (xs_expr (xe_vb (xe_callC C_need_number (hr.mono (by omega)) hgd (by rfl) (xa_val (xe_var (pv 2)) (xa_val xe_int (xa_val (xe_globI (by rfl) B.c_MOST_TIMES) xa_nil))) (argN_val (argN_val (argN_val argN_nil))))))))))
abbrev s_course_of : Stmt := topS 20
abbrev N_course_of : List Str := ["cords", "figure", "powers", "leftovers", "further", "left"]
theorem sc_course_of : FnScope N_course_of ["cords", "figure"] (defScope s_course_of) := ⟨rfl, rfl, rfl, by decide +kernel, rfl, by decide +kernel, by decide +kernel⟩
def m_course_of : List Slot → Tr D := fnF 6 .v (sSeq (sSetO 2 (eLst (lCons (eCall m_straight_figure (aVal (eVar 0) aNil)) lNil))) (sSeq (sSetO 3 (eLst (lCons (eC (.int 0)) lNil))) (sSeq (whileD (tt (e2 (dInA true) (e2 dIx (eVarB 2) (eNeg (eC (.int 1)))) (eSl dSlA (eVarB 2) oNone (oSome (eNeg (eC (.int 1))))))) (sSeq (sAsg (eCall m_put_together (aVal (eVar 0) (aVal (e2 dIx (eVarB 2) (eNeg (eC (.int 1)))) (aVal (eVar 1) aNil)))) (gT 2 (gsCons (gN 4) (gsCons (gN 5) gsNil)))) (sSeq (sApp 2 (eVar 4)) (sApp 3 (e2 dAddA (e2 dIx (eVarB 3) (eNeg (eC (.int 1)))) (eVar 5))))) 1000000) (fun env => (fun env => (sRet (eTup (lCons (eIdxA (eVar 2) (e2 dIx (eVar 2) (eNeg (eC (.int 1))))) (lCons (eVar 2) (lCons (eVar 3) lNil))))) (frz 3 env)) (frz 2 env)))))
theorem ok_course_of {f : Addr} {fd : FuncData} (F : Fun K "course_of" "course_of" s_course_of f fd) (B : Bt K mg) (C_straight_figure : Cal P w K mg base "straight_figure" 1 ["cords"] (spD K .v 1 m_straight_figure)) (C_put_together : Cal P w K mg base "put_together" 2 ["cords", "figure", "other"] (spD K .v 3 m_put_together)) : FnG P w K mg base 3 f fd ["cords", "figure"] (spD K .v 2 m_course_of) :=
  fn_ok F sc_course_of fun cdv A outer s H E hr hgd => (have hu := hr.units; have hu1 := hu_of hr; have nd := sc_course_of.nd; (xss_cons (xs_setO (i := 2) nd rfl (Or.inl rfl) (xe_lst (xl_cons (xe_callC C_straight_figure (hr.mono (by omega)) hgd (by rfl) (xa_val (xe_var (pv 0)) xa_nil) (argN_val argN_nil)) xl_nil))) (xss_cons (xs_setO (i := 3) nd rfl (Or.inl rfl) (xe_lst (xl_cons xe_int xl_nil))) (xss_cons (xs_while 1000000 (ps_while PassesOwn.never (xt_cmp (o_notA0 hu) (xe_vb (xe_ix (xe_varB (pv 2)) (xe_vb (xe_neg (pe_un un_neg (xe_vb xe_int)))) (fun _ _ => rfl))) (xe_vb (xe_slice x_slA (xe_varB (pv 2)) xo_none (xo_some (xe_vb (xe_neg (pe_un un_neg (xe_vb xe_int))))))) (by with_unfolding_all rfl)) (xss_cons (xs_asg (ps_asg (xe_callC C_put_together (hr.mono (by omega)) hgd (by rfl) (xa_val (xe_var (pv 0)) (xa_val (xe_ix (xe_varB (pv 2)) (xe_vb (xe_neg (pe_un un_neg (xe_vb xe_int)))) (fun _ _ => rfl)) (xa_val (xe_var (pv 1)) xa_nil))) (argN_val (argN_val (argN_val argN_nil)))) (xg_tup rfl (xgs_cons (xg_name (pg_name (i := 4) nd rfl (Or.inl rfl))) (xgs_cons (xg_name (pg_name (i := 5) nd rfl (Or.inl rfl))) xgs_nil))))) (xss_cons (xs_app (ps_expr (pe_bm PySem.F.plainAttrs_list PySem.F.slot_list_append PySem.F.type_list_append mt_append (pv 2) (pa_cons (xe_var (pv 4)) pa_nil)))) (xss_one (xs_app (ps_expr (pe_bm PySem.F.plainAttrs_list PySem.F.slot_list_append PySem.F.type_list_append mt_append (pv 3) (pa_cons (xe_op o_addA (xe_vb (xe_ix (xe_varB (pv 3)) (xe_vb (xe_neg (pe_un un_neg (xe_vb xe_int)))) (fun _ _ => rfl))) (xe_vb (xe_var (pv 5)))) pa_nil))))))))) (xss_frz 2 (xss_frz 3 (xss_one (xs_ret (by decide) (xe_tup (xl_cons (xe_idxA (pe_bm PySem.F.plainAttrs_list PySem.F.slot_list_index PySem.F.type_list_index (mt_idxD hu) (xe_vb (xe_var (pv 2))) (pa_cons (xe_vb (xe_ix (xe_vb (xe_var (pv 2))) (xe_vb (xe_neg (pe_un un_neg (xe_vb xe_int)))) (fun _ _ => rfl))) pa_nil))) (xl_cons (xe_var (pv 2)) (xl_cons (xe_var (pv 3)) xl_nil))))))))))))
abbrev s_power_and_leftovers : Stmt := topS 21
abbrev N_power_and_leftovers : List Str := ["cords", "figure", "many", "growth", "first", "powers", "leftovers", "rounds", "rest"]
theorem sc_power_and_leftovers : FnScope N_power_and_leftovers ["cords", "figure", "many"] (defScope s_power_and_leftovers) := ⟨rfl, rfl, rfl, by decide +kernel, rfl, by decide +kernel, by decide +kernel⟩
def m_power_and_leftovers : List Slot → Tr D := fnF 9 .v (sSeq (sAsg (eCall m_course_of (aVal (eVar 0) (aVal (eVar 1) aNil))) (gT 3 (gsCons (gN 4) (gsCons (gN 5) (gsCons (gN 6) gsNil))))) (sSeq (sIf (tt (e2 dLt (eVar 2) (eVar 4))) (sRet (eTup (lCons (e2 dIx (eVar 5) (eVar 2)) (lCons (e2 dIx (eVar 6) (eVar 2)) lNil)))) sNext) (sSeq (sAsg (eCB dDivmod (lCons (e2 dSub (eVar 2) (eVar 4)) (lCons (e2 dSub (e2 dSub (eCB dLenA (lCons (eVar 5) lNil)) (eC (.int 1))) (eVar 4)) lNil))) (gT 2 (gsCons (gN 7) (gsCons (gN 8) gsNil)))) (sSeq (sSet 3 (e2 dSub (e2 dIx (eVar 6) (eNeg (eC (.int 1)))) (e2 dIx (eVar 6) (eVar 4)))) (sRet (eTup (lCons (e2 dIx (eVar 5) (e2 dAddA (eVar 4) (eVar 8))) (lCons (e2 dAddA (e2 dIx (eVar 6) (e2 dAddA (eVar 4) (eVar 8))) (e2 dMul (eVar 7) (eVar 3))) lNil))))))))
theorem ok_power_and_leftovers {f : Addr} {fd : FuncData} (F : Fun K "power_and_leftovers" "power_and_leftovers" s_power_and_leftovers f fd) (B : Bt K mg) (C_course_of : Cal P w K mg base "course_of" 3 ["cords", "figure"] (spD K .v 2 m_course_of)) : FnG P w K mg base 4 f fd ["cords", "figure", "many"] (spD K .v 3 m_power_and_leftovers) :=
  fn_ok F sc_power_and_leftovers fun cdv A outer s H E hr hgd => (have hu := hr.units; have hu1 := hu_of hr; have nd := sc_power_and_leftovers.nd; (xss_cons (xs_asg (ps_asg (xe_callC C_course_of (hr.mono (by omega)) hgd (by rfl) (xa_val (xe_var (pv 0)) (xa_val (xe_var (pv 1)) xa_nil)) (argN_val (argN_val argN_nil))) (xg_tup rfl (xgs_cons (xg_name (pg_name (i := 4) nd rfl (Or.inl rfl))) (xgs_cons (xg_name (pg_name (i := 5) nd rfl (Or.inl rfl))) (xgs_cons (xg_name (pg_name (i := 6) nd rfl (Or.inl rfl))) xgs_nil)))))) (xss_cons (xs_if (xt_cmp o_lt (xe_vb (xe_var (pv 2))) (xe_vb (xe_var (pv 4))) (nomark _)) (xss_one (xs_ret (by decide) (xe_tup (xl_cons (xe_ix (xe_vb (xe_var (pv 5))) (xe_vb (xe_var (pv 2))) (fun _ _ => rfl)) (xl_cons (xe_ix (xe_vb (xe_var (pv 6))) (xe_vb (xe_var (pv 2))) (fun _ _ => rfl)) xl_nil))))) xss_nil) (xss_cons (xs_asg (ps_asg (xe_callB c_divmod (by rfl) B.b_divmod (by decide +kernel) (xlb_cons (xe_vb (xe_op o_sub (xe_vb (xe_var (pv 2))) (xe_vb (xe_var (pv 4))))) (xlb_cons (xe_vb (xe_op o_sub (xe_vb (xe_op o_sub (xe_vb (xe_callB c_lenA (by rfl) B.b_len (by decide +kernel) (xlb_cons (xe_vb (xe_var (pv 5))) xlb_nil))) (xe_vb xe_int))) (xe_vb (xe_var (pv 4))))) xlb_nil))) (xg_tup rfl (xgs_cons (xg_name (pg_name (i := 7) nd rfl (Or.inl rfl))) (xgs_cons (xg_name (pg_name (i := 8) nd rfl (Or.inl rfl))) xgs_nil))))) (xss_cons (xs_set (i := 3) nd rfl (Or.inl rfl) (xe_op o_sub (xe_vb (xe_ix (xe_vb (xe_var (pv 6))) (xe_vb (xe_neg (pe_un un_neg (xe_vb xe_int)))) (fun _ _ => rfl))) (xe_vb (xe_ix (xe_vb (xe_var (pv 6))) (xe_vb (xe_var (pv 4))) (fun _ _ => rfl))))) (xss_one (xs_ret (by decide) (xe_tup (xl_cons (xe_ix (xe_vb (xe_var (pv 5))) (xe_vb (xe_op o_addA (xe_vb (xe_var (pv 4))) (xe_vb (xe_var (pv 8))))) (fun _ _ => rfl)) (xl_cons (xe_op o_addA (xe_vb (xe_ix (xe_vb (xe_var (pv 6))) (xe_vb (xe_op o_addA (xe_vb (xe_var (pv 4))) (xe_vb (xe_var (pv 8))))) (fun _ _ => rfl))) (xe_vb (xe_op o_mul (xe_vb (xe_var (pv 7))) (xe_vb (xe_var (pv 3)))))) xl_nil))))))))))
abbrev s_power : Stmt := topS 22
abbrev N_power : List Str := ["cords", "figure", "many"]
theorem sc_power : FnScope N_power ["cords", "figure", "many"] (defScope s_power) := ⟨rfl, rfl, rfl, by decide +kernel, rfl, by decide +kernel, by decide +kernel⟩
def m_power : List Slot → Tr D := fnF 3 .v (sSeq (sExpr (eCall m_need_power (aVal (eVar 0) (aVal (eVar 1) (aVal (eVar 2) aNil))))) (sRet (e2 dIx (eCall m_power_and_leftovers (aVal (eVar 0) (aVal (eVar 1) (aVal (eVar 2) aNil)))) (eC (.int 0)))))
theorem ok_power {f : Addr} {fd : FuncData} (F : Fun K "power" "power" s_power f fd) (B : Bt K mg) (C_need_power : Cal P w K mg base "need_power" 4 ["cords", "figure", "many"] (spD K .v 3 m_need_power)) (C_power_and_leftovers : Cal P w K mg base "power_and_leftovers" 4 ["cords", "figure", "many"] (spD K .v 3 m_power_and_leftovers)) : FnG P w K mg base 5 f fd ["cords", "figure", "many"] (spD K .v 3 m_power) :=
  fn_ok F sc_power fun cdv A outer s H E hr hgd => (have hu := hr.units; have hu1 := hu_of hr; have nd := sc_power.nd; (xss_cons (xs_expr (xe_vb (xe_callC C_need_power (hr.mono (by omega)) hgd (by rfl) (xa_val (xe_var (pv 0)) (xa_val (xe_var (pv 1)) (xa_val (xe_var (pv 2)) xa_nil))) (argN_val (argN_val (argN_val argN_nil)))))) (xss_one (xs_ret (by decide) (xe_ix (xe_vb (xe_callC C_power_and_leftovers (hr.mono (by omega)) hgd (by rfl) (xa_val (xe_var (pv 0)) (xa_val (xe_var (pv 1)) (xa_val (xe_var (pv 2)) xa_nil))) (argN_val (argN_val (argN_val argN_nil))))) (xe_vb xe_int) (fun _ _ => rfl))))))
abbrev s_power_leftovers : Stmt := topS 23
abbrev N_power_leftovers : List Str := ["cords", "figure", "many"]
theorem sc_power_leftovers : FnScope N_power_leftovers ["cords", "figure", "many"] (defScope s_power_leftovers) := ⟨rfl, rfl, rfl, by decide +kernel, rfl, by decide +kernel, by decide +kernel⟩
def m_power_leftovers : List Slot → Tr D := fnF 3 .v (sSeq (sExpr (eCall m_need_power (aVal (eVar 0) (aVal (eVar 1) (aVal (eVar 2) aNil))))) (sRet (e2 dIx (eCall m_power_and_leftovers (aVal (eVar 0) (aVal (eVar 1) (aVal (eVar 2) aNil)))) (eC (.int 1)))))
theorem ok_power_leftovers {f : Addr} {fd : FuncData} (F : Fun K "power_leftovers" "power_leftovers" s_power_leftovers f fd) (B : Bt K mg) (C_need_power : Cal P w K mg base "need_power" 4 ["cords", "figure", "many"] (spD K .v 3 m_need_power)) (C_power_and_leftovers : Cal P w K mg base "power_and_leftovers" 4 ["cords", "figure", "many"] (spD K .v 3 m_power_and_leftovers)) : FnG P w K mg base 5 f fd ["cords", "figure", "many"] (spD K .v 3 m_power_leftovers) :=
  fn_ok F sc_power_leftovers fun cdv A outer s H E hr hgd => (have hu := hr.units; have hu1 := hu_of hr; have nd := sc_power_leftovers.nd; (xss_cons (xs_expr (xe_vb (xe_callC C_need_power (hr.mono (by omega)) hgd (by rfl) (xa_val (xe_var (pv 0)) (xa_val (xe_var (pv 1)) (xa_val (xe_var (pv 2)) xa_nil))) (argN_val (argN_val (argN_val argN_nil)))))) (xss_one (xs_ret (by decide) (xe_ix (xe_vb (xe_callC C_power_and_leftovers (hr.mono (by omega)) hgd (by rfl) (xa_val (xe_var (pv 0)) (xa_val (xe_var (pv 1)) (xa_val (xe_var (pv 2)) xa_nil))) (argN_val (argN_val (argN_val argN_nil))))) (xe_vb xe_int) (fun _ _ => rfl))))))
abbrev s_closed_places : Stmt := topS 25
abbrev N_closed_places : List Str := ["cords", "figure", "labels", "place"]
theorem sc_closed_places : FnScope N_closed_places ["cords", "figure"] (defScope s_closed_places) := ⟨rfl, rfl, rfl, by decide +kernel, rfl, by decide +kernel, by decide +kernel⟩
def m_closed_places : List Slot → Tr D := fnF 4 .v (sSeq (sSet 2 (eCB dList (lCons (eVar 1) lNil))) (sSeq (sForR (lCons (eVar 0) lNil) (gN 3) (sSet 2 (eCall m_merged (aVal (eVar 2) (aVal (e2 dIx (eVar 2) (eVar 3)) (aVal (e2 dIx (eVar 2) (e2 dAddA (eVar 0) (eVar 3))) aNil)))))) (sRet (eCall m_renumbered (aVal (eSl dSlA (eVar 2) oNone (oSome (eVar 0))) aNil)))))
theorem ok_closed_places {f : Addr} {fd : FuncData} (F : Fun K "closed_places" "closed_places" s_closed_places f fd) (B : Bt K mg) (C_merged : Cal P w K mg base "merged" 1 ["labels", "near", "far"] (spD K .v 3 m_merged)) (C_renumbered : Cal P w K mg base "renumbered" 1 ["labels"] (spD K .v 1 m_renumbered)) : FnG P w K mg base 2 f fd ["cords", "figure"] (spD K .v 2 m_closed_places) :=
  fn_ok F sc_closed_places fun cdv A outer s H E hr hgd => (have hu := hr.units; have hu1 := hu_of hr; have nd := sc_closed_places.nd; (xss_cons (xs_set (i := 2) nd rfl (Or.inl rfl) (xe_ov (xe_callT c_list (by rfl) B.b_list (by decide +kernel) (xlb_cons (xe_vb (xe_var (pv 1))) xlb_nil)))) (xss_cons (xs_forR1 (ps_for PassesOwn.never rfl (pi_range1 (by rfl) B.b_range (xlb_cons (xe_vb (xe_var (pv 0))) xlb_nil)) (xg_name (pg_name (i := 3) nd rfl (Or.inl rfl))) (xss_one (xs_set (i := 2) nd rfl (Or.inl rfl) (xe_callC C_merged (hr.mono (by omega)) hgd (by rfl) (xa_val (xe_var (pv 2)) (xa_val (xe_ix (xe_vb (xe_var (pv 2))) (xe_vb (xe_var (pv 3))) (fun _ _ => rfl)) (xa_val (xe_ix (xe_vb (xe_var (pv 2))) (xe_vb (xe_op o_addA (xe_vb (xe_var (pv 0))) (xe_vb (xe_var (pv 3))))) (fun _ _ => rfl)) xa_nil))) (argN_val (argN_val (argN_val argN_nil))))))) (lenN_cons lenN_nil)) (xss_one (xs_ret (by decide) (xe_callC C_renumbered (hr.mono (by omega)) hgd (by rfl) (xa_val (xe_slice x_slA (xe_vb (xe_var (pv 2))) xo_none (xo_some (xe_vb (xe_var (pv 0))))) xa_nil) (argN_val argN_nil)))))))
abbrev s_many_rings : Stmt := topS 26
abbrev N_many_rings : List Str := ["cords", "figure"]
theorem sc_many_rings : FnScope N_many_rings ["cords", "figure"] (defScope s_many_rings) := ⟨rfl, rfl, rfl, by decide +kernel, rfl, by decide +kernel, by decide +kernel⟩
def m_many_rings : List Slot → Tr D := fnF 2 .v (sRet (e2 dAddA (eCB dMax1 (lCons (eCall m_closed_places (aVal (eVar 0) (aVal (eVar 1) aNil))) lNil)) (eC (.int 1))))
theorem ok_many_rings {f : Addr} {fd : FuncData} (F : Fun K "many_rings" "many_rings" s_many_rings f fd) (B : Bt K mg) (C_closed_places : Cal P w K mg base "closed_places" 2 ["cords", "figure"] (spD K .v 2 m_closed_places)) : FnG P w K mg base 3 f fd ["cords", "figure"] (spD K .v 2 m_many_rings) :=
  fn_ok F sc_many_rings fun cdv A outer s H E hr hgd => (have hu := hr.units; have hu1 := hu_of hr; have nd := sc_many_rings.nd; (xss_one (xs_ret (by decide) (xe_op o_addA (xe_vb (xe_callB (c_max1 rfl) (by rfl) B.b_max (by decide +kernel) (xlb_cons (xe_vb (xe_callC C_closed_places (hr.mono (by omega)) hgd (by rfl) (xa_val (xe_var (pv 0)) (xa_val (xe_var (pv 1)) xa_nil)) (argN_val (argN_val argN_nil)))) xlb_nil))) (xe_vb xe_int)))))
abbrev s_power_rings : Stmt := topS 27
abbrev N_power_rings : List Str := ["cords", "figure", "many", "one", "left"]
theorem sc_power_rings : FnScope N_power_rings ["cords", "figure", "many"] (defScope s_power_rings) := ⟨rfl, rfl, rfl, by decide +kernel, rfl, by decide +kernel, by decide +kernel⟩
def m_power_rings : List Slot → Tr D := fnF 5 .v (sSeq (sExpr (eCall m_need_power (aVal (eVar 0) (aVal (eVar 1) (aVal (eVar 2) aNil))))) (sSeq (sAsg (eCall m_power_and_leftovers (aVal (eVar 0) (aVal (eVar 1) (aVal (eVar 2) aNil)))) (gT 2 (gsCons (gN 3) (gsCons (gN 4) gsNil)))) (sRet (e2 dAddA (eCall m_many_rings (aVal (eVar 0) (aVal (eVar 3) aNil))) (eVar 4)))))
theorem ok_power_rings {f : Addr} {fd : FuncData} (F : Fun K "power_rings" "power_rings" s_power_rings f fd) (B : Bt K mg) (C_need_power : Cal P w K mg base "need_power" 4 ["cords", "figure", "many"] (spD K .v 3 m_need_power)) (C_power_and_leftovers : Cal P w K mg base "power_and_leftovers" 4 ["cords", "figure", "many"] (spD K .v 3 m_power_and_leftovers)) (C_many_rings : Cal P w K mg base "many_rings" 3 ["cords", "figure"] (spD K .v 2 m_many_rings)) : FnG P w K mg base 5 f fd ["cords", "figure", "many"] (spD K .v 3 m_power_rings) :=
  fn_ok F sc_power_rings fun cdv A outer s H E hr hgd => (have hu := hr.units; have hu1 := hu_of hr; have nd := sc_power_rings.nd; (xss_cons (xs_expr (xe_vb (xe_callC C_need_power (hr.mono (by omega)) hgd (by rfl) (xa_val (xe_var (pv 0)) (xa_val (xe_var (pv 1)) (xa_val (xe_var (pv 2)) xa_nil))) (argN_val (argN_val (argN_val argN_nil)))))) (xss_cons (xs_asg (ps_asg (xe_callC C_power_and_leftovers (hr.mono (by omega)) hgd (by rfl) (xa_val (xe_var (pv 0)) (xa_val (xe_var (pv 1)) (xa_val (xe_var (pv 2)) xa_nil))) (argN_val (argN_val (argN_val argN_nil)))) (xg_tup rfl (xgs_cons (xg_name (pg_name (i := 3) nd rfl (Or.inl rfl))) (xgs_cons (xg_name (pg_name (i := 4) nd rfl (Or.inl rfl))) xgs_nil))))) (xss_one (xs_ret (by decide) (xe_op o_addA (xe_vb (xe_callC C_many_rings (hr.mono (by omega)) hgd (by rfl) (xa_val (xe_var (pv 0)) (xa_val (xe_var (pv 3)) xa_nil)) (argN_val (argN_val argN_nil)))) (xe_vb (xe_var (pv 4)))))))))
abbrev s_law_mixed : Stmt := topS 29
abbrev N_law_mixed : List Str := ["cell", "n", "blend"]
theorem sc_law_mixed : FnScope N_law_mixed ["cell", "n"] (defScope s_law_mixed) := ⟨rfl, rfl, rfl, by decide +kernel, rfl, by decide +kernel, by decide +kernel⟩
def m_law_mixed : List Slot → Tr D := fnF 3 .v (sSeq (sSet 2 (e2 dAddA (e2 dAddA (e2 dMod (eCB dInt1 (lCons (e2 dMul (e2 dMul (eVar 0) (e2 dAddA (eC (.int 1)) (e2 dMul (eC (.int 2)) (eVar 1)))) (eC (.int 48271))) lNil)) (eC (.int 2147483647))) (e2 dMul (e2 dMul (eC (.int 7919)) (eVar 1)) (eVar 1))) (e2 dMul (eC (.int 104729)) (eVar 1)))) (sRet (e2 dDiv (e2 dMod (eCB dInt1 (lCons (e2 dMul (eVar 2) (eC (.int 69621))) lNil)) (eC (.int 2147483629))) (eC (.int 7)))))
theorem ok_law_mixed {f : Addr} {fd : FuncData} (F : Fun K "_law_mixed" "_law_mixed" s_law_mixed f fd) (B : Bt K mg)  : FnG P w K mg base 1 f fd ["cell", "n"] (spD K .v 2 m_law_mixed) :=
  fn_ok F sc_law_mixed fun cdv A outer s H E hr hgd => (have hu := hr.units; have hu1 := hu_of hr; have nd := sc_law_mixed.nd; (xss_cons (xs_set (i := 2) nd rfl (Or.inl rfl) (xe_op o_addA (xe_vb (xe_op o_addA (xe_vb (xe_op o_mod (xe_vb (xe_callT c_int (by rfl) B.b_int (by decide +kernel) (xlb_cons (xe_vb (xe_op o_mul (xe_vb (xe_op o_mul (xe_vb (xe_var (pv 0))) (xe_vb (xe_op o_addA (xe_vb xe_int) (xe_vb (xe_op o_mul (xe_vb xe_int) (xe_vb (xe_var (pv 1))))))))) (xe_vb xe_int))) xlb_nil))) (xe_vb xe_int))) (xe_vb (xe_op o_mul (xe_vb (xe_op o_mul (xe_vb xe_int) (xe_vb (xe_var (pv 1))))) (xe_vb (xe_var (pv 1))))))) (xe_vb (xe_op o_mul (xe_vb xe_int) (xe_vb (xe_var (pv 1))))))) (xss_one (xs_ret (by decide) (xe_op o_div (xe_vb (xe_op o_mod (xe_vb (xe_callT c_int (by rfl) B.b_int (by decide +kernel) (xlb_cons (xe_vb (xe_op o_mul (xe_vb (xe_var (pv 2))) (xe_vb xe_int))) xlb_nil))) (xe_vb xe_int))) (xe_vb xe_int))))))
abbrev s_law_folded : Stmt := topS 30
abbrev N_law_folded : List Str := ["script", "found", "n", "cell"]
theorem sc_law_folded : FnScope N_law_folded ["script"] (defScope s_law_folded) := ⟨rfl, rfl, rfl, by decide +kernel, rfl, by decide +kernel, by decide +kernel⟩
def m_law_folded : List Slot → Tr D := fnF 4 .o (sSeq (sSetO 1 (eCompR (lCons (eC (.int 64)) lNil) (gN 2) fYes (e2 dAddA (eC (.int 17)) (eVar 2)) [2])) (sSeq (sForE (lCons (eVar 0) lNil) (gT 2 (gsCons (gN 2) (gsCons (gN 3) gsNil))) (sSetIx 1 (e2 dMod (eCB dInt1 (lCons (eVar 2) lNil)) (eC (.int 64))) (e2 dMod (eCB dInt1 (lCons (e2 dAddA (e2 dMul (e2 dIx (eVarB 1) (e2 dMod (eCB dInt1 (lCons (eVar 2) lNil)) (eC (.int 64)))) (eC (.int 48271))) (eVar 3)) lNil)) (eC (.int 2147483647))))) (sSeq (sForR (lCons (eC (.int 1)) (lCons (eC (.int 64)) lNil)) (gN 2) (sSetIx 1 (eVar 2) (e2 dMod (eCB dInt1 (lCons (e2 dAddA (e2 dIx (eVarB 1) (eVar 2)) (e2 dMul (e2 dIx (eVarB 1) (e2 dSub (eVar 2) (eC (.int 1)))) (eC (.int 16807)))) lNil)) (eC (.int 2147483647))))) (sRetOwn 1))))
theorem ok_law_folded {f : Addr} {fd : FuncData} (F : Fun K "_law_folded" "_law_folded" s_law_folded f fd) (B : Bt K mg)  : FnG P w K mg base 1 f fd ["script"] (spD K .o 1 m_law_folded) :=
  fn_ok F sc_law_folded fun cdv A outer s H E hr hgd => (have hu := hr.units; have hu1 := hu_of hr; have nd := sc_law_folded.nd; (xss_cons (xs_setLc (ps_setLc (i := 1) (own := [("n", 2)]) (g := (gName 2)) rfl nd rfl rfl (sw_true rfl rfl rfl (by decide +kernel)) (pi_range1 (by rfl) B.b_range (xlb_cons (xe_vb xe_int) xlb_nil)) (blkOk_by (own := [("n", 2)]) (N := N_law_folded) (sc := defScope s_law_folded) (by decide +kernel)) (fun _ _ _ _ _ => pg_name (i := 2) nd rfl (Or.inl rfl)) (fun _ _ _ _ _ => pts_nil) (fun _ _ _ _ _ => (xe_op o_addA (xe_vb xe_int) (xe_vb (xe_var (pv 2)))))) (rd_compR1 (own_name 2) yes_ok (lenN_cons lenN_nil))) (xss_cons (xs_forE (ps_for PassesOwn.never rfl (pi_enumT (by rfl) B.b_enumerate (xl_cons (xe_var (pv 0)) xl_nil)) (xg_tup rfl (xgs_cons (xg_name (pg_name (i := 2) nd rfl (Or.inl rfl))) (xgs_cons (xg_name (pg_name (i := 3) nd rfl (Or.inl rfl))) xgs_nil))) (xss_one (xs_setIx (ps_asg (xe_op o_mod (xe_vb (xe_callT c_int (by rfl) B.b_int (by decide +kernel) (xlb_cons (xe_vb (xe_op o_addA (xe_vb (xe_op o_mul (xe_vb (xe_ix (xe_varB (pv 1)) (xe_vb (xe_op o_mod (xe_vb (xe_callT c_int (by rfl) B.b_int (by decide +kernel) (xlb_cons (xe_vb (xe_var (pv 2))) xlb_nil))) (xe_vb xe_int))) (fun _ _ => rfl))) (xe_vb xe_int))) (xe_vb (xe_var (pv 3))))) xlb_nil))) (xe_vb xe_int)) (pg_sub (pv 1) (xe_vb (xe_op o_mod (xe_vb (xe_callT c_int (by rfl) B.b_int (by decide +kernel) (xlb_cons (xe_vb (xe_var (pv 2))) xlb_nil))) (xe_vb xe_int))) set_list)))))) (xss_cons (xs_forR2 (ps_for PassesOwn.never rfl (pi_range2 (by rfl) B.b_range (xlb_cons (xe_vb xe_int) (xlb_cons (xe_vb xe_int) xlb_nil))) (xg_name (pg_name (i := 2) nd rfl (Or.inl rfl))) (xss_one (xs_setIx (ps_asg (xe_op o_mod (xe_vb (xe_callT c_int (by rfl) B.b_int (by decide +kernel) (xlb_cons (xe_vb (xe_op o_addA (xe_vb (xe_ix (xe_varB (pv 1)) (xe_vb (xe_var (pv 2))) (fun _ _ => rfl))) (xe_vb (xe_op o_mul (xe_vb (xe_ix (xe_varB (pv 1)) (xe_vb (xe_op o_sub (xe_vb (xe_var (pv 2))) (xe_vb xe_int))) (fun _ _ => rfl))) (xe_vb xe_int))))) xlb_nil))) (xe_vb xe_int)) (pg_sub (pv 1) (xe_vb (xe_var (pv 2))) set_list))))) (lenN_cons (lenN_cons lenN_nil))) (xss_one (xs_retOwn (pv 1)))))))
theorem fold_turn1 {S : D} {env : Ev} {k z : Int} (hk : 0 ≤ k) (h : FI S env) : ∃ env1 env2, (gT 2 (gsCons (gN 2) (gsCons (gN 3) gsNil))) (.tuple [.int k, .int z]) env = some env1 ∧
    sSetIx 1 (e2 dMod (eCB dInt1 (lCons (eVar 2) lNil)) (eC (.int 64))) (e2 dMod (eCB dInt1 (lCons (e2 dAddA (e2 dMul (e2 dIx (eVarB 1) (e2 dMod (eCB dInt1 (lCons (eVar 2) lNil)) (eC (.int 64)))) (eC (.int 48271))) (eVar 3)) lNil)) (eC (.int 2147483647))) env1 = .ret (.nx env2) ∧ FI S env2 := by
  obtain ⟨cells, d2, d3, rfl, hc⟩ := h
  obtain ⟨x, hx, hm⟩ := at_intsD cells (show 0 ≤ k % 64 by omega) (by rw [hc.1]; omega)
  have a1 : dMod (.int k) (.int 64) = some (.int (k % 64)) := dMod_p (by decide)
  have a2 : dMul (.int x) (.int 48271) = some (.int (x * 48271)) := dMul_r (by decide)
  have a3 : ∀ y, dMod (.int y) (.int 2147483647) = some (.int (y % 2147483647)) := fun y => dMod_p (by decide)
  have a4 : dIx (.list (cells.map PyData.int)) (.int (k % 64)) = some (.int x) := hx
  have a5 : ixN cells.length (k % 64) = some (k % 64).toNat := ixN_ok (by omega) (by rw [hc.1]; omega)
  refine ⟨_, [some (.val S), some (.own (.list ((cells.set (k % 64).toNat ((x * 48271 + z) % 2147483647)).map PyData.int))), some (.val (.int k)), some (.val (.int z))], rfl, ?_, _, _, _, rfl, hc.set _ _⟩
  simp [sSetIx, e2, eCB, lCons, lNil, eVar, eVarB, eC, Tr.bind, Tr.ofOpt, dInt1, dAddA_i, a1, a2, a3, a4, a5, List.map_set]
theorem fold_turn2 {S : D} {env : Ev} {k : Int} (hk : 1 ≤ k ∧ k < 64) (h : FI S env) : ∃ env1 env2, (gN 2) (.int k) env = some env1 ∧
    sSetIx 1 (eVar 2) (e2 dMod (eCB dInt1 (lCons (e2 dAddA (e2 dIx (eVarB 1) (eVar 2)) (e2 dMul (e2 dIx (eVarB 1) (e2 dSub (eVar 2) (eC (.int 1)))) (eC (.int 16807)))) lNil)) (eC (.int 2147483647))) env1 = .ret (.nx env2) ∧ FI S env2 := by
  obtain ⟨cells, d2, d3, rfl, hc⟩ := h
  obtain ⟨x, hx, hm⟩ := at_intsD cells (show 0 ≤ k by omega) (by rw [hc.1]; omega)
  obtain ⟨y, hy, hn⟩ := at_intsD cells (show 0 ≤ k - 1 by omega) (by rw [hc.1]; omega)
  have a1 : dSub (.int k) (.int 1) = some (.int (k - 1)) := rfl
  have a2 : dMul (.int y) (.int 16807) = some (.int (y * 16807)) := dMul_r (by decide)
  have a3 : ∀ y, dMod (.int y) (.int 2147483647) = some (.int (y % 2147483647)) := fun y => dMod_p (by decide)
  have a4 : dIx (.list (cells.map PyData.int)) (.int k) = some (.int x) := hx
  have a6 : dIx (.list (cells.map PyData.int)) (.int (k - 1)) = some (.int y) := hy
  have a5 : ixN cells.length k = some k.toNat := ixN_ok (by omega) (by rw [hc.1]; omega)
  refine ⟨_, [some (.val S), some (.own (.list ((cells.set k.toNat ((x + y * 16807) % 2147483647)).map PyData.int))), some (.val (.int k)), d3], rfl, ?_, _, _, _, rfl, hc.set _ _⟩
  simp [sSetIx, e2, eCB, lCons, lNil, eVar, eVarB, eC, Tr.bind, Tr.ofOpt, dInt1, dAddA_i, a1, a2, a3, a4, a5, a6, List.map_set]
theorem comp_first (S : D) : eCompR (lCons (eC (.int 64)) lNil) (gN 2) fYes (e2 dAddA (eC (.int 17)) (eVar 2)) [2] [some (.val S), none, none, none] = .ret (.list (first64.map PyData.int)) := by
  have key : ∀ ds : List Int, compD (gN 2) fYes (e2 dAddA (eC (.int 17)) (eVar 2)) [some (.val S), none, none, none] (ds.map PyData.int) = .ret (ds.map fun n => .int (17 + n)) := by
    intro ds
    induction ds with
    | nil => rfl
    | cons d ds ih =>
      rw [List.map_cons, compD]
      simp only [gN, List.set_cons_succ, List.set_cons_zero, fYes, Tr.bind, if_true, e2, eC, eVar]
      rw [ih]
      rfl
  have e0 : rngD 0 64 = ((List.range 64).map fun (n : Nat) => (n : Int)).map PyData.int := by
    unfold rngD
    rw [List.map_map]
    apply List.map_congr_left
    intro n _
    show PyData.int (0 + (n : Int)) = PyData.int n
    rw [Int.zero_add]
  have e1 : ok62 64 = true := by decide
  have e2' : Int.toNat 64 = 64 := rfl
  have e3 : wipeE [some (Slot.val S), none, none, none] [2] = [some (Slot.val S), none, none, none] := rfl
  unfold eCompR
  simp only [lCons, eC, lNil, Tr.bind, rngOf, e1, if_true, e2', e3]
  unfold endComp
  rw [if_pos (by rw [rngD_len, sizeLine_eq]; omega), e0, key]
  simp only [Tr.bind, first64, List.map_map]
  rfl
theorem folded_eq (ns : List Int) : ∃ cells, m_law_folded [.val (scrD (ns.map PyData.int))] = .ret (.list (cells.map PyData.int)) ∧ Cells cells := by
  obtain ⟨e1, h1, i1⟩ := forD_inv (tgt := gT 2 (gsCons (gN 2) (gsCons (gN 3) gsNil))) (FI (scrD (ns.map PyData.int))) (pairsFrom 0 (ns.map PyData.int)) [some (.val (scrD (ns.map PyData.int))), some (.own (.list (first64.map PyData.int))), none, none] ⟨_, _, _, rfl, first_cells⟩ fun d hd env h => by
    obtain ⟨k, z, hk, rfl⟩ := pairs_ints ns 0 d hd
    exact fold_turn1 (z := z) hk h
  obtain ⟨e2', h2, i2⟩ := forD_inv (tgt := gN 2) (FI (scrD (ns.map PyData.int))) (rngD 1 63) e1 i1 fun d hd env h => by
    unfold rngD at hd
    obtain ⟨n, hn, rfl⟩ := List.mem_map.mp hd
    have := List.mem_range.mp hn
    exact fold_turn2 (by omega) h
  obtain ⟨cells, d2, d3, rfl, hc⟩ := i2
  refine ⟨cells, ?_, hc⟩
  have s0 : startE 4 [Slot.val (scrD (ns.map PyData.int))] = [some (.val (scrD (ns.map PyData.int))), none, none, none] := rfl
  have s1 : (sSetO 1 (eCompR (lCons (eC (.int 64)) lNil) (gN 2) fYes (e2 dAddA (eC (.int 17)) (eVar 2)) [2])) (startE 4 [.val (scrD (ns.map PyData.int))]) = .ret (.nx [some (.val (scrD (ns.map PyData.int))), some (.own (.list (first64.map PyData.int))), none, none]) := by
    rw [s0]
    unfold sSetO
    rw [comp_first]
    rfl
  unfold m_law_folded fnF sSeq
  rw [s1]
  simp only [Tr.bind]
  have s2 : ∀ env S, env = [some (.val (scrD (ns.map PyData.int))), some (.own (.list (first64.map PyData.int))), none, none] → sForE (lCons (eVar 0) lNil) (gT 2 (gsCons (gN 2) (gsCons (gN 3) gsNil))) S env = forD (gT 2 (gsCons (gN 2) (gsCons (gN 3) gsNil))) S (pairsFrom 0 (ns.map PyData.int)) env := fun env S e => by
    subst e
    rfl
  rw [s2 _ _ rfl, h1]
  simp only [Tr.bind]
  have r0 : rngOf [PyData.int 1, PyData.int 64] = some (1, 63) := rfl
  have s3 : ∀ S env, sForR (lCons (eC (.int 1)) (lCons (eC (.int 64)) lNil)) (gN 2) S env = forD (gN 2) S (rngD 1 63) env := fun S env => by
    unfold sForR
    simp only [lCons, eC, lNil, Tr.bind, r0]
  rw [s3, h2]
  rfl
theorem mixed_eq {x n : Int} (hx : 0 ≤ x ∧ x < 2 ^ 60) (hn : 0 ≤ n ∧ n < 2 ^ 60) : ∃ y, m_law_mixed [.val (.int x), .val (.int n)] = .ret (.int y) ∧ 0 ≤ y ∧ y < 2147483648 := by
  refine ⟨((((x * (1 + 2 * n) * 48271) % 2147483647 + 7919 * n * n + 104729 * n) * 69621) % 2147483629) / 7, ?_, ?_, ?_⟩
  · have a1 : dMul (.int 2) (.int n) = some (.int (2 * n)) := dMul_l (by decide)
    have a2 : dMul (.int x) (.int (1 + 2 * n)) = some (.int (x * (1 + 2 * n))) := dMul_l (by omega)
    have a3 : dMul (.int (x * (1 + 2 * n))) (.int 48271) = some (.int (x * (1 + 2 * n) * 48271)) := dMul_r (by decide)
    have a4 : dMul (.int 7919) (.int n) = some (.int (7919 * n)) := dMul_l (by decide)
    have a5 : dMul (.int (7919 * n)) (.int n) = some (.int (7919 * n * n)) := dMul_r (by omega)
    have a6 : dMul (.int 104729) (.int n) = some (.int (104729 * n)) := dMul_l (by decide)
    have a7 : ∀ z, dMul (.int z) (.int 69621) = some (.int (z * 69621)) := fun z => dMul_r (by decide)
    have b1 : ∀ z, dMod (.int z) (.int 2147483647) = some (.int (z % 2147483647)) := fun z => dMod_p (by decide)
    have b2 : ∀ z, dMod (.int z) (.int 2147483629) = some (.int (z % 2147483629)) := fun z => dMod_p (by decide)
    have b3 : ∀ z, dDiv (.int z) (.int 7) = some (.int (z / 7)) := fun z => dDiv_p (by decide)
    simp [m_law_mixed, fnF, startE, sSeq, sSet, sRet, e2, eCB, lCons, lNil, eVar, eC, Tr.bind, Tr.ofOpt, dAddA_i, dInt1, a1, a2, a3, a4, a5, a6, a7, b1, b2, b3]
  · exact Int.ediv_nonneg (Int.emod_nonneg _ (by decide)) (by decide)
  · have := Int.emod_lt_of_pos (((x * (1 + 2 * n) * 48271) % 2147483647 + 7919 * n * n + 104729 * n) * 69621) (show (0 : Int) < 2147483629 by decide)
    omega
abbrev s_law_draw : Stmt := topS 31
abbrev N_law_draw : List Str := ["m", "limit", "n", "lot", "here", "cell"]
theorem sc_law_draw : FnScope N_law_draw ["m", "limit"] (defScope s_law_draw) := ⟨rfl, rfl, rfl, by decide +kernel, rfl, by decide +kernel, by decide +kernel⟩
theorem mixed_sp {x n : Int} {H : Hp} {Q : VK} (hx : 0 ≤ x ∧ x < 2 ^ 60) (hn : 0 ≤ n ∧ n < 2 ^ 60) (k : ∀ y H', Same H H' → 0 ≤ y ∧ y < 2147483648 → Q (.int y) H') : spD K .v 2 m_law_mixed [.int x, .int n] H Q E0 := by
  obtain ⟨y, e, hy⟩ := mixed_eq hx hn
  refine ⟨none, fun _ => False, 0, [.val (.int x), .val (.int n)], rfl, fun _ h => h, fun _ h => h.elim, trivial, .cons (.int x) (.cons (.int n) .nil), ?_⟩
  rw [e]
  intro v H' k1 _ hv
  cases In.int_inv (show In K (fun _ => False) H' v (.int y) from hv)
  exact k y H' (fun b o e => k1 b o e id) hy
theorem ok_law_draw {f : Addr} {fd : FuncData} (F : Fun K "_law_draw" "_law_draw" s_law_draw f fd) (B : Bt K mg) (C_law_mixed : Cal P w K mg base "_law_mixed" 1 ["cell", "n"] (spD K .v 2 m_law_mixed)) : FnG P w K mg base 2 f fd ["m", "limit"] (spD K .v 2 fDraw) := by
  refine fnG_raw F sc_law_draw (fun _ _ _ _ h => spD_len h) fun cdv A outer s H vs Q E hr hgd hs => ?_
  have hu := hr.units
  have hu1 := hu_of hr
  have nd := sc_law_draw.nd
  refine ⟨_, pss_cons (ps_set (i := 2) nd rfl (.inl rfl) (pe_dget hu1 (pv 0) pe_str (fun _ _ => rfl)))
    (pss_cons (ps_dput hu1 (pv 0) pe_str (pe_op op_add (pv 2) pe_int) rfl)
    (pss_cons (ps_if (pt_cmpR (op_neD hu) (pe_dget hu1 (pv 0) pe_str (fun _ _ => rfl)) (pe_lst pa_nil) (nomark _))
      (pss_cons (ps_set (i := 3) nd rfl (.inl rfl) (pe_dget hu1 (pv 0) pe_str (fun _ _ => rfl)))
      (pss_cons (ps_set (i := 4) nd rfl (.inl rfl) (pe_op op_mod (pe_callTy call_int1 (by rfl) B.b_int (by decide +kernel) (pa_cons (pv 2) pa_nil)) (pe_callB call_len_seq (by rfl) B.b_len PySem.boot_len (pa_cons (pv 3) pa_nil))))
      (pss_cons (ps_set (i := 5) nd rfl (.inl rfl) (pe_ix ix_list (pv 3) (pv 4) (fun _ _ => rfl)))
      (pss_one (ps_if (pt_cmpR op_gt (pv 5) pe_int (nomark _))
        (pss_cons (ps_asg (pe_op op_fdiv (pv 5) (pv 1)) (pg_sub (pv 3) (pv 4) set_list))
        (pss_one (ps_ret (pe_op op_mod (pe_callTy call_int1 (by rfl) B.b_int (by decide +kernel) (pa_cons (pv 5) pa_nil)) (pv 1)))))
        pss_nil)))))
      pss_nil)
    (pss_cons (ps_set (i := 3) nd rfl (.inl rfl) (pe_dget hu1 (pv 0) pe_str (fun _ _ => rfl)))
    (pss_one (ps_ret (pe_op op_mod (pe_callTy call_int1 (by rfl) B.b_int (by decide +kernel)
      (pa_cons (pe_callG C_law_mixed (hr.mono (by omega)) hgd (by rfl)
        (pa_cons (pe_callG C_law_mixed (hr.mono (by omega)) hgd (by rfl)
          (pa_cons (pe_op op_add (pe_ix ix_list (pv 3) (pe_op op_mod (pe_callTy call_int1 (by rfl) B.b_int (by decide +kernel) (pa_cons (pv 2) pa_nil)) pe_int) (fun _ _ => rfl)) (pe_op op_mul pe_int (pe_op op_fdiv (pv 2) pe_int)))
          (pa_cons (pv 2) pa_nil)))
        (pa_cons (pe_op op_add (pv 2) pe_int) pa_nil))) pa_nil)) (pv 1))))))), ?_⟩
  obtain ⟨ω, N, b, ss, hl, om, dom, orc, hp, q⟩ := hs
  unfold fDraw at q
  split at q
  case h_2 => exact q.elim
  rename_i l
  split at q
  case isFalse => exact q.elim
  rename_i hb
  obtain ⟨c, rfl, q⟩ := q
  cases hp with
  | cons h1 hp =>
  cases hp with
  | cons h2 hp =>
  cases hp
  obtain ⟨w', rfl, rfl⟩ := h1
  cases In.int_inv h2
  obtain ⟨cells, great, n, hO⟩ := Orc.parts orc
  have fin : ∀ (r : Int) (H' : Hp), 0 ≤ r → r < l → Keep (some w') H H' → Orc w' c H' → Q (.int r) H' := fun r H' h0 h1 k o => by
    have e : ((r.toNat : Nat) : Int) = r := Int.toNat_of_nonneg h0
    refine q r.toNat (by omega) (.int r) H' k o ?_
    rw [e]
    exact .int r
  have hO1 := hO.step
  have k1 : Keep (some w') H (upd H w'.a (.dK (kvO w'.c w'.g (n + 1)))) := fun x o e hx => by
    rw [upd_ne (fun z => hx (.inl z))]
    exact e
  have g1 : DGet H w'.a (.str "spot") (some (.int n)) := by
    have := DGet.k (k := .inr "spot") hO.dict
    rwa [kvO_spot] at this
  have p1 : DPut H w'.a (.str "spot") (.int (n + 1)) (upd H w'.a (.dK (kvO w'.c w'.g (n + 1)))) := by
    have := DPut.k (v := .int (n + 1)) (k := .inr "spot") hO.dict (by rw [sizeLine_eq]; show 3 < _; omega)
    rwa [kvO_put] at this
  have get : ∀ {H' : Hp} {gr : List Int} {m : Int} {b : Nat}, OrcP w' cells gr m b H' → DGet H' w'.a (.str "great") (some (.ref w'.g)) ∧ DGet H' w'.a (.str "cells") (some (.ref w'.c)) := fun h => by
    have a1 := DGet.k (k := .inr "great") h.dict
    have a2 := DGet.k (k := .inr "cells") h.dict
    rw [kvO_great] at a1
    rw [kvO_cells] at a2
    exact ⟨a1, a2⟩
  refine ⟨_, rfl, _, _, rfl, g1, ?_⟩
  refine ⟨_, rfl, _, _, rfl, rfl, _, rfl, _, _, rfl, p1, ?_⟩
  refine ⟨_, rfl, _, _, rfl, (get hO1).1, Nat.zero_le _, fun p hp => ?_⟩
  have hO2 := hO1.same (same_new (o := .lst []) hp)
  have k2 := k1.trans (Keep.of (ω := some w') (same_new (o := .lst []) hp))
  refine ⟨.list (great.map .int), .list [], .lst (.inl (.inl hO2.gre)) (dp_ints great), .lst (.inl (.inl upd_same)) .nil, shaped_ints great, by decide, _, rfl, ?_⟩
  generalize upd (upd H w'.a (.dK (kvO w'.c w'.g (n + 1)))) p (.lst []) = H2 at hO2 k2
  have hn0 := hO.n0
  have hnb := hO.nb
  have i64 : ∃ x, atI (cells.map V.int) (n % 64) = some (V.int x) ∧ 0 ≤ x ∧ x < 2147483647 := by
    obtain ⟨x, e, hm⟩ := at_ints cells (show 0 ≤ n % 64 by omega) (by rw [hO.len]; omega)
    exact ⟨x, e, hO.cb x hm⟩
  obtain ⟨cx, hcx, hc0⟩ := i64
  by_cases hg : great = []
  · subst hg
    rw [if_neg (by simp [PyData.eqv, PyData.eqvAll])]
    refine ⟨_, rfl, _, _, rfl, (get hO2).2, ?_⟩
    refine ⟨_, rfl, _, rfl, .inl ⟨_, rfl, _, _, rfl, rfl, (show (0 : Int) < 64 by decide), ?_⟩⟩
    refine ⟨_, _, _, _, rfl, rfl, .inl (.inl hO2.cel), hcx, ?_⟩
    refine ⟨_, rfl, _, _, rfl, rfl, (show (0 : Int) < 64 ∧ (64 : Int) < 1073741824 by decide), ?_⟩
    refine ⟨_, _, rfl, rfl, .inl (by decide), ?_⟩
    refine ⟨_, _, rfl, rfl, _, rfl, ?_⟩
    refine mixed_sp (by omega) (by omega) fun y H3 s3 hy => ?_
    refine ⟨_, rfl, _, _, rfl, rfl, ?_⟩
    refine mixed_sp (by omega) (by omega) fun z H4 s4 hz => ?_
    refine .inl ⟨_, rfl, _, rfl, _, _, rfl, rfl, by omega, ?_⟩
    exact fin _ _ (Int.emod_nonneg _ (by omega)) (Int.emod_lt_of_pos _ (by omega)) (k2.trans ((Keep.of s3).trans (Keep.of s4))) ((hO2.same s3).same s4).orc
  · have hlen : 0 < great.length := List.length_pos_iff.mpr hg
    rw [if_pos (by cases great with | nil => exact absurd rfl hg | cons a b => simp [PyData.eqv, PyData.eqvAll])]
    refine ⟨_, rfl, _, _, rfl, (get hO2).1, ?_⟩
    refine ⟨_, rfl, .inl ⟨_, rfl, _, rfl, _, _, rfl, .inl (.inl (.inl hO2.gre)), ?_⟩⟩
    refine ⟨_, _, rfl, rfl, by rw [List.length_map]; omega, ?_⟩
    rw [List.length_map]
    obtain ⟨x, hx, hm⟩ := at_ints great (Int.emod_nonneg n (show (great.length : Int) ≠ 0 by omega)) (Int.emod_lt_of_pos n (show (0 : Int) < great.length by omega))
    have hxb := hO.gb x hm
    refine ⟨_, rfl, _, rfl, _, _, _, _, rfl, rfl, .inl (.inl hO2.gre), hx, ?_⟩
    refine ⟨_, rfl, _, _, rfl, rfl, _, rfl, ?_⟩
    by_cases hc : 0 < x
    · show if decide (0 < x) = true then _ else _
      rw [if_pos (decide_eq_true hc)]
      obtain ⟨j, hj, ej⟩ : ∃ j : Nat, j < great.length ∧ n % (great.length : Int) = j := ⟨(n % (great.length : Int)).toNat, by
        have := Int.emod_lt_of_pos n (show (0 : Int) < great.length by omega)
        have := Int.emod_nonneg n (show (great.length : Int) ≠ 0 by omega)
        omega, (Int.toNat_of_nonneg (Int.emod_nonneg n (show (great.length : Int) ≠ 0 by omega))).symm⟩
      have hq0 : 0 ≤ x / l := Int.ediv_nonneg (by omega) (by omega)
      have hq1 : x / l ≤ x := Int.ediv_le_self _ (by omega)
      have hO3 := hO2.less (j := j) (x := x / l) ⟨hq0, Nat.lt_of_le_of_lt (by omega) hxb.2⟩
      have k3 : Keep (some w') H2 (upd H2 w'.g (.lst ((great.set j (x / l)).map V.int))) := fun y o e hy => by
        rw [upd_ne (fun z => hy (.inr (.inr z)))]
        exact e
      refine ⟨_, rfl, _, rfl, _, _, rfl, rfl, (show 0 < l ∧ l < 1073741824 by omega), ?_⟩
      refine ⟨_, rfl, _, rfl, w'.g, great.map V.int, _, j, rfl, rfl, hO2.gre, ?_, ?_⟩
      · rw [ej, List.length_map]
        unfold ixN
        rw [if_pos (by omega), if_pos (by omega), Int.toNat_natCast]
      · rw [← List.map_set]
        refine ⟨_, rfl, .inl ⟨_, rfl, _, rfl, _, _, rfl, rfl, (show 0 < l by omega), ?_⟩⟩
        exact fin _ _ (Int.emod_nonneg _ (by omega)) (Int.emod_lt_of_pos _ (by omega)) (k2.trans k3) hO3.orc
    · show if decide (0 < x) = true then _ else _
      rw [if_neg (by simpa using hc)]
      refine ⟨_, rfl, _, _, rfl, (get hO2).2, ?_⟩
      refine ⟨_, rfl, _, rfl, .inl ⟨_, rfl, _, _, rfl, rfl, (show (0 : Int) < 64 by decide), ?_⟩⟩
      refine ⟨_, _, _, _, rfl, rfl, .inl (.inl hO2.cel), hcx, ?_⟩
      refine ⟨_, rfl, _, _, rfl, rfl, (show (0 : Int) < 64 ∧ (64 : Int) < 1073741824 by decide), ?_⟩
      refine ⟨_, _, rfl, rfl, .inl (by decide), ?_⟩
      refine ⟨_, _, rfl, rfl, _, rfl, ?_⟩
      refine mixed_sp (by omega) (by omega) fun y H3 s3 hy => ?_
      refine ⟨_, rfl, _, _, rfl, rfl, ?_⟩
      refine mixed_sp (by omega) (by omega) fun z H4 s4 hz => ?_
      refine .inl ⟨_, rfl, _, rfl, _, _, rfl, rfl, by omega, ?_⟩
      exact fin _ _ (Int.emod_nonneg _ (by omega)) (Int.emod_lt_of_pos _ (by omega)) (k2.trans ((Keep.of s3).trans (Keep.of s4))) ((hO2.same s3).same s4).orc
abbrev m_law_draw := fDraw
abbrev s_law_begun : Stmt := topS 32
abbrev N_law_begun : List Str := ["script", "m", "cell"]
theorem sc_law_begun : FnScope N_law_begun ["script"] (defScope s_law_begun) := ⟨rfl, rfl, rfl, by decide +kernel, rfl, by decide +kernel, by decide +kernel⟩
def greatF : FE := eCompS (eVar 0) (gN 2) fYes (eIf (tt (e2 dGe (eVar 2) (e2 dPow (eC (.int 10)) (eC (.int 18))))) (eVar 2) (eC (.int 0))) [2]
theorem great_eq (ns : List Int) (hl : ns.length ≤ 63) : greatF [some (.val (scrD (ns.map PyData.int))), none, none] = .ret (.list ((bigs ns).map PyData.int)) := by
  have a1 : dPow (.int 10) (.int 18) = some (.int (10 ^ 18)) := rfl
  have key : ∀ ds : List Int, compD (gN 2) fYes (eIf (tt (e2 dGe (eVar 2) (e2 dPow (eC (.int 10)) (eC (.int 18))))) (eVar 2) (eC (.int 0))) [some (.val (scrD (ns.map PyData.int))), none, none] (ds.map PyData.int) = .ret ((bigs ds).map PyData.int) := by
    intro ds
    induction ds with
    | nil => rfl
    | cons d ds ih =>
      rw [List.map_cons, compD]
      simp only [gN, List.set_cons_succ, List.set_cons_zero, fYes, Tr.bind, if_true, e2, eC, eVar, eIf, tt, Tr.ofOpt, a1, dGe, dInt, List.getElem?_cons_succ, List.getElem?_cons_zero]
      rw [ih]
      by_cases h : (1000000000000000000 : Int) ≤ d
      · simp [Tr.bind, bigs, h]
      · simp [Tr.bind, bigs, h]
  have e3 : wipeE [some (Slot.val (scrD (ns.map PyData.int))), none, none] [2] = [some (Slot.val (scrD (ns.map PyData.int))), none, none] := rfl
  have e4 : itemsOf (scrD (ns.map PyData.int)) = some (ns.map PyData.int) := rfl
  unfold greatF eCompS
  simp only [eVar, Tr.bind, List.getElem?_cons_zero, e4, e3]
  unfold endComp
  rw [if_pos (by rw [List.length_map, sizeLine_eq]; omega), key]
  rfl
set_option maxHeartbeats 400000 in
theorem ok_law_begun {f : Addr} {fd : FuncData} (F : Fun K "_law_begun" "_law_begun" s_law_begun f fd) (B : Bt K mg) (C_law_folded : Cal P w K mg base "_law_folded" 1 ["script"] (spD K .o 1 m_law_folded)) : FnG P w K mg base 2 f fd ["script"] (spBegun K) := by
  refine fnG_raw F sc_law_begun (fun _ _ _ _ ⟨a, ns, e, _⟩ => by rw [e]; rfl) fun cdv A outer s H vs Q E hr hgd hs => ?_
  have hu := hr.units
  have hu1 := hu_of hr
  have nd := sc_law_begun.nd
  refine ⟨_, pss_cons (ps_set (i := 1) nd rfl (.inl rfl) (pe_disp (pps_cons pe_str (xe_callC C_law_folded (hr.mono (by omega)) hgd (by rfl) (xa_val (xe_var (pv 0)) xa_nil) (argN_val argN_nil)) (pps_cons pe_str (pe_lst pa_nil) (pps_cons pe_str pe_int pps_nil))) rfl rfl (by intro z; cases z) (by decide)))
    (pss_cons (ps_dput hu1 (pv 1) pe_str (xe_compS (own_name 2) yes_ok (pe_lc (own := [("cell", 2)]) (g := (gName 2)) rfl nd (pi_seq (xe_vb (xe_var (pv 0)))) (blkOk_by (own := [("cell", 2)]) (N := N_law_begun) (sc := defScope s_law_begun) (by decide +kernel)) (fun _ _ _ _ _ => pg_name (i := 2) nd rfl (Or.inl rfl)) (fun _ _ _ _ _ => pts_nil)
      (fun _ _ _ _ _ => xe_if (xt_cmp o_ge (xe_vb (xe_var (pv 2))) (xe_vb (xe_op o_pow (xe_vb xe_int) (xe_vb xe_int))) (nomark _)) (xe_var (pv 2)) xe_int))) rfl)
    (pss_one (ps_ret (pv 1)))), ?_⟩
  obtain ⟨a, ns, rfl, hs, hl, hb, q⟩ := hs
  obtain ⟨cells, hcell, hC⟩ := folded_eq ns
  refine seqAsg (disp3 fun p hp => ?_)
  have s0 : Same H (upd H p (.dK [])) := same_new hp
  have p0 : upd H p (.dK []) p = some (.dK []) := upd_same
  generalize upd H p (.dK []) = H0 at s0 p0
  have hs0 : SqS K (fun _ => False) H0 a (ns.map V.int) := hs.mono (fun _ z => z.elim) fun x o e _ => s0 x o e
  have r0 : RepE K none (fun _ => False) H0 H0 0 (startE 3 [.val (scrD (ns.map PyData.int))]) (L2.start N_law_begun [.ref a]) := rep_start (Ns := N_law_begun) (ω := none) (N := fun _ => False) (fun _ h => h) (fun _ (h : False) => h.elim) trivial (.cons (show SlotA K none (fun _ => False) H0 (.val (scrD (ns.map PyData.int))) (.ref a) from In.scr hs0 (in_ints ns)) .nil)
  rw [start3] at r0
  refine tX_ret r0 (call1.trans hcell) fun v H1 k1 _ hv => ?_
  obtain ⟨q1, rfl, hq, xs, hx, hxs⟩ := hv
  have ex := ints_in hxs
  subst ex
  have s1 : Same H0 H1 := fun x o e => k1 x o e id
  refine ⟨Nat.zero_le _, fun g0 hg0 => ?_⟩
  have s3 : Same H1 (upd H1 g0 (.lst [])) := same_new hg0
  generalize upd H1 g0 (.lst []) = H3 at s3
  refine ⟨s3 _ _ (s1 _ _ p0), [(.inr "cells", .ref q1), (.inr "great", .ref g0), (.inr "spot", .int 0)], rfl, (by show 3 ≤ 15; decide), ?_⟩
  have q1p : q1 ≠ p := fun e => by rw [e, p0] at hq; cases hq
  have sH3 : Same H H3 := fun x o e => s3 _ _ (s1 _ _ (s0 _ _ e))
  have ep : ∀ x o, H x = some o → x ≠ p := fun x o e z => by rw [z, hp] at e; cases e
  have s4 : Same H (upd H3 p (.dK (kvO q1 g0 0))) := fun x o e => by rw [upd_ne (ep x o e)]; exact sH3 x o e
  have p4 : upd H3 p (.dK (kvO q1 g0 0)) p = some (.dK (kvO q1 g0 0)) := upd_same
  have c4 : upd H3 p (.dK (kvO q1 g0 0)) q1 = some (.lst (cells.map V.int)) := by rw [upd_ne q1p]; exact s3 _ _ hx
  refine seqPut ?_
  have em : mergeK [] [(.inr "cells", .ref q1), (.inr "great", .ref g0), (.inr "spot", .int 0)] = kvO q1 g0 0 := rfl
  rw [em]
  generalize upd H3 p (.dK (kvO q1 g0 0)) = H4 at s4 p4 c4
  have hs4 : SqS K (fun _ => False) H4 a (ns.map V.int) := hs.mono (fun _ z => z.elim) fun x o e _ => s4 x o e
  have r4 : RepE K none (fun _ => False) H4 H4 0 (startE 3 [.val (scrD (ns.map PyData.int))]) (L2.start N_law_begun [.ref a]) := rep_start (Ns := N_law_begun) (ω := none) (N := fun _ => False) (fun _ h => h) (fun _ (h : False) => h.elim) trivial (.cons (show SlotA K none (fun _ => False) H4 (.val (scrD (ns.map PyData.int))) (.ref a) from In.scr hs4 (in_ints ns)) .nil)
  rw [start3] at r4
  refine tX_ret (resl (σ' := [some (.ref a), some (.ref p), none]) r4 rfl fun i s e => ?_) (great_eq ns hl) fun v H5 k5 _ hv => ?_
  · rcases i with _ | _ | _ | i
    · rfl
    · simp at e
    · simp at e
    · simp at e
  obtain ⟨g, rfl, hg, ys, hy, hys⟩ := hv
  have ey := ints_in hys
  subst ey
  have s5 : Same H4 H5 := fun x o e => k5 x o e id
  have p5 := s5 _ _ p4
  refine ⟨_, rfl, p, _, rfl, DPut.k (k := .inr "great") p5 (by rw [sizeLine_eq]; show 3 < _; omega), ?_⟩
  have gp : g ≠ p := fun e => by rw [e, p4] at hg; cases hg
  refine ⟨_, rfl, q ⟨p, q1, g⟩ _ (fun x o e => ?_) hp ?_ ?_ fun b hb' => ?_⟩
  · rw [upd_ne (ep x o e)]
    exact s5 _ _ (s4 _ _ e)
  · cases e : H q1 with
    | none => rfl
    | some o => rw [s0 _ _ e] at hq; cases hq
  · cases e : H g with
    | none => rfl
    | some o => rw [s4 _ _ e] at hg; cases hg
  · refine OrcP.orc (cells := cells) (great := bigs ns) (n := 0) ⟨upd_same, ?_, ?_, hC.1, hC.2, ?_, big_bound hb, Int.le_refl _, by omega, fun e => ?_⟩
    · rw [upd_ne q1p]
      exact s5 _ _ c4
    · rw [upd_ne gp]
      exact hy
    · unfold bigs
      rw [List.length_map]
      exact hl
    · have e' : q1 = g := e
      rw [← e', c4] at hg
      cases hg
abbrev s_law_of : Stmt := topS 33
abbrev N_law_of : List Str := ["m", "some"]
theorem sc_law_of : FnScope N_law_of ["m", "some"] (defScope s_law_of) := ⟨rfl, rfl, rfl, by decide +kernel, rfl, by decide +kernel, by decide +kernel⟩
def m_law_of : List Slot → Tr D := fnF 2 .v (sRet (e2 dIx (eVar 1) (eCall m_law_draw (aOrc 0 (aVal (eCB dLenA (lCons (eVar 1) lNil)) aNil)))))
theorem ok_law_of {f : Addr} {fd : FuncData} (F : Fun K "_law_of" "_law_of" s_law_of f fd) (B : Bt K mg) (C_law_draw : Cal P w K mg base "_law_draw" 2 ["m", "limit"] (spD K .v 2 m_law_draw)) : FnG P w K mg base 3 f fd ["m", "some"] (spD K .v 2 m_law_of) :=
  fn_ok F sc_law_of fun cdv A outer s H E hr hgd => (have hu := hr.units; have hu1 := hu_of hr; have nd := sc_law_of.nd; (xss_one (xs_ret (by decide) (xe_ix (xe_vb (xe_var (pv 1))) (xe_vb (xe_callC C_law_draw (hr.mono (by omega)) hgd (by rfl) (xa_orc (pv 0) (xa_val (xe_callB c_lenA (by rfl) B.b_len (by decide +kernel) (xlb_cons (xe_vb (xe_var (pv 1))) xlb_nil)) xa_nil)) (argN_orc (argN_val argN_nil)))) (fun _ _ => rfl)))))
abbrev s_law_like : Stmt := topS 34
abbrev N_law_like : List Str := ["got", "due"]
theorem sc_law_like : FnScope N_law_like ["got", "due"] (defScope s_law_like) := ⟨rfl, rfl, rfl, by decide +kernel, rfl, by decide +kernel, by decide +kernel⟩
def m_law_like : List Slot → Tr D := fnF 2 .v (sRet (e2 dEq (eCB dRepr (lCons (eVar 0) lNil)) (eCB dRepr (lCons (eVar 1) lNil))))
theorem ok_law_like {f : Addr} {fd : FuncData} (F : Fun K "_law_like" "_law_like" s_law_like f fd) (B : Bt K mg)  : FnG P w K mg base 1 f fd ["got", "due"] (spD K .v 2 m_law_like) :=
  fn_ok F sc_law_like fun cdv A outer s H E hr hgd => (have hu := hr.units; have hu1 := hu_of hr; have nd := sc_law_like.nd; (xss_one (xs_ret (by decide) (xe_cmp (o_eq hu) (xe_vb (xe_callB (c_repr hgd hu) (by rfl) B.b_repr (by decide +kernel) (xlb_cons (xe_vb (xe_var (pv 0))) xlb_nil))) (xe_vb (xe_callB (c_repr hgd hu) (by rfl) B.b_repr (by decide +kernel) (xlb_cons (xe_vb (xe_var (pv 1))) xlb_nil))) (nomark _)))))
abbrev s_law_named : Stmt := topS 35
abbrev N_law_named : List Str := ["marks", "mark", "seen", "found"]
theorem sc_law_named : FnScope N_law_named ["marks"] (defScope s_law_named) := ⟨rfl, rfl, rfl, by decide +kernel, rfl, by decide +kernel, by decide +kernel⟩
def m_law_named : List Slot → Tr D := fnF 4 .v (sSeq (sPar true true 2 3 (eLst lNil) (eLst lNil)) (sSeq (sForS (eVar 0) (gN 1) (sSeq (sIf (tt (e2 (dIn true) (eVar 1) (eVarB 2))) (sApp 2 (eVar 1)) sNext) (sApp 3 (eIdx (eVarB 2) (eVar 1))))) (sRet (eCB dTuple (lCons (eVarB 3) lNil)))))
theorem ok_law_named {f : Addr} {fd : FuncData} (F : Fun K "_law_named" "_law_named" s_law_named f fd) (B : Bt K mg)  : FnG P w K mg base 1 f fd ["marks"] (spD K .v 1 m_law_named) :=
  fn_ok F sc_law_named fun cdv A outer s H E hr hgd => (have hu := hr.units; have hu1 := hu_of hr; have nd := sc_law_named.nd; (xss_cons (xs_par (o1 := true) (o2 := true) (ps_par rfl nd rfl rfl (by decide) rfl rfl (pa_cons (xe_lst xl_nil) (pa_cons (xe_lst xl_nil) pa_nil)) (by rfl))) (xss_cons (xs_forS (ps_for PassesOwn.never rfl (pi_seq (xe_var (pv 0))) (xg_name (pg_name (i := 1) nd rfl (Or.inl rfl))) (xss_cons (xs_if (xt_cmp o_notin (xe_vb (xe_var (pv 1))) (xe_varB (pv 2)) (by with_unfolding_all rfl)) (xss_one (xs_app (ps_expr (pe_bm PySem.F.plainAttrs_list PySem.F.slot_list_append PySem.F.type_list_append mt_append (pv 2) (pa_cons (xe_var (pv 1)) pa_nil))))) xss_nil) (xss_one (xs_app (ps_expr (pe_bm PySem.F.plainAttrs_list PySem.F.slot_list_append PySem.F.type_list_append mt_append (pv 3) (pa_cons (xe_idx (pe_bm PySem.F.plainAttrs_list PySem.F.slot_list_index PySem.F.type_list_index mt_index (xe_varB (pv 2)) (pa_cons (xe_vb (xe_var (pv 1))) pa_nil))) pa_nil)))))))) (xss_one (xs_ret (by decide) (xe_callT c_tuple (by rfl) B.b_tuple (by decide +kernel) (xlb_cons (xe_varB (pv 3)) xlb_nil)))))))
abbrev s_law_straight : Stmt := topS 36
abbrev N_law_straight : List Str := ["cords_so"]
theorem sc_law_straight : FnScope N_law_straight ["cords_so"] (defScope s_law_straight) := ⟨rfl, rfl, rfl, by decide +kernel, rfl, by decide +kernel, by decide +kernel⟩
def m_law_straight : List Slot → Tr D := fnF 1 .v (sRet (eCB dTuple (lCons (e2 dMulA (eRgL (lCons (eVar 0) lNil)) (eC (.int 2))) lNil)))
theorem ok_law_straight {f : Addr} {fd : FuncData} (F : Fun K "_law_straight" "_law_straight" s_law_straight f fd) (B : Bt K mg)  : FnG P w K mg base 1 f fd ["cords_so"] (spD K .v 1 m_law_straight) :=
  fn_ok F sc_law_straight fun cdv A outer s H E hr hgd => (have hu := hr.units; have hu1 := hu_of hr; have nd := sc_law_straight.nd; (xss_one (xs_ret (by decide) (xe_callT c_tuple (by rfl) B.b_tuple (by decide +kernel) (xlb_cons (xe_vb (xe_op o_mulA (xe_vb (xe_ov (xe_rgL1 (pe_listRg rfl (by rfl) B.b_list (prg_1 (by rfl) B.b_range (xe_vb (xe_var (pv 0)))))))) (xe_vb xe_int))) xlb_nil)))))
abbrev s_law_deed : Stmt := topS 37
abbrev N_law_deed : List Str := ["cords_so", "deed", "marks", "word", "place"]
theorem sc_law_deed : FnScope N_law_deed ["cords_so", "deed"] (defScope s_law_deed) := ⟨rfl, rfl, rfl, by decide +kernel, rfl, by decide +kernel, by decide +kernel⟩
def m_law_deed : List Slot → Tr D := fnF 5 .v (sSeq (sAsg (eVar 1) (gT 2 (gsCons (gN 3) (gsCons (gN 4) gsNil)))) (sSeq (sSetO 2 (e2 dCat (eRgL (lCons (eVar 0) lNil)) (eRgL (lCons (eVar 0) lNil)))) (sSeq (sIf (tt (e2 dEq (eVar 3) (eC (.str "cut")))) (sSetIx 2 (e2 dAddA (eVar 0) (eVar 4)) (eVar 0)) (sIf (tt (e2 dEq (eVar 3) (eC (.str "hook")))) (sSeq (sSetIx 2 (e2 dAddA (eVar 4) (eC (.int 1))) (eVar 4)) (sSeq (sSetIx 2 (e2 dAddA (eVar 0) (eVar 4)) (eVar 0)) (sSetIx 2 (e2 dAddA (e2 dAddA (eVar 0) (eVar 4)) (eC (.int 1))) (eVar 0)))) (sIf (tt (e2 dEq (eVar 3) (eC (.str "swap")))) (sSetIx2 2 (eTup (lCons (e2 dAddA (eVar 4) (eC (.int 1))) (lCons (eVar 4) lNil))) (e2 dAddA (eVar 0) (eVar 4)) (e2 dAddA (e2 dAddA (eVar 0) (eVar 4)) (eC (.int 1)))) (sSeq (sSetIx 2 (e2 dAddA (eVar 4) (eC (.int 1))) (eVar 4)) (sSeq (sSetIx 2 (e2 dAddA (eVar 0) (eVar 4)) (eVar 4)) (sSetIx 2 (e2 dAddA (e2 dAddA (eVar 0) (eVar 4)) (eC (.int 1))) (eVar 4))))))) (fun env => (sRet (eCall m_law_named (aVal (eVar 2) aNil))) (frz 2 env)))))
theorem ok_law_deed {f : Addr} {fd : FuncData} (F : Fun K "_law_deed" "_law_deed" s_law_deed f fd) (B : Bt K mg) (C_law_named : Cal P w K mg base "_law_named" 1 ["marks"] (spD K .v 1 m_law_named)) : FnG P w K mg base 2 f fd ["cords_so", "deed"] (spD K .v 2 m_law_deed) :=
  fn_ok F sc_law_deed fun cdv A outer s H E hr hgd => (have hu := hr.units; have hu1 := hu_of hr; have nd := sc_law_deed.nd; (xss_cons (xs_asg (ps_asg (xe_var (pv 1)) (xg_tup rfl (xgs_cons (xg_name (pg_name (i := 3) nd rfl (Or.inl rfl))) (xgs_cons (xg_name (pg_name (i := 4) nd rfl (Or.inl rfl))) xgs_nil))))) (xss_cons (xs_setO (i := 2) nd rfl (Or.inl rfl) (xe_op o_cat (xe_vb (xe_ov (xe_rgL1 (pe_listRg rfl (by rfl) B.b_list (prg_1 (by rfl) B.b_range (xe_vb (xe_var (pv 0)))))))) (xe_vb (xe_ov (xe_rgL1 (pe_listRg rfl (by rfl) B.b_list (prg_1 (by rfl) B.b_range (xe_vb (xe_var (pv 0)))))))))) (xss_cons (xs_if (xt_cmp (o_eq hu) (xe_vb (xe_var (pv 3))) (xe_vb xe_str) (nomark _)) (xss_one (xs_setIx (ps_asg (xe_var (pv 0)) (pg_sub (pv 2) (xe_vb (xe_op o_addA (xe_vb (xe_var (pv 0))) (xe_vb (xe_var (pv 4))))) set_list)))) (xss_one (xs_if (xt_cmp (o_eq hu) (xe_vb (xe_var (pv 3))) (xe_vb xe_str) (nomark _)) (xss_cons (xs_setIx (ps_asg (xe_var (pv 4)) (pg_sub (pv 2) (xe_vb (xe_op o_addA (xe_vb (xe_var (pv 4))) (xe_vb xe_int))) set_list))) (xss_cons (xs_setIx (ps_asg (xe_var (pv 0)) (pg_sub (pv 2) (xe_vb (xe_op o_addA (xe_vb (xe_var (pv 0))) (xe_vb (xe_var (pv 4))))) set_list))) (xss_one (xs_setIx (ps_asg (xe_var (pv 0)) (pg_sub (pv 2) (xe_vb (xe_op o_addA (xe_vb (xe_op o_addA (xe_vb (xe_var (pv 0))) (xe_vb (xe_var (pv 4))))) (xe_vb xe_int))) set_list)))))) (xss_one (xs_if (xt_cmp (o_eq hu) (xe_vb (xe_var (pv 3))) (xe_vb xe_str) (nomark _)) (xss_one (xs_setIx2 (ps_asg (xe_tup (xl_cons (xe_op o_addA (xe_vb (xe_var (pv 4))) (xe_vb xe_int)) (xl_cons (xe_var (pv 4)) xl_nil))) (pg_tup rfl (pgs_cons (pg_sub (pv 2) (xe_vb (xe_op o_addA (xe_vb (xe_var (pv 0))) (xe_vb (xe_var (pv 4))))) set_list) (pgs_cons (pg_sub (pv 2) (xe_vb (xe_op o_addA (xe_vb (xe_op o_addA (xe_vb (xe_var (pv 0))) (xe_vb (xe_var (pv 4))))) (xe_vb xe_int))) set_list) pgs_nil)))))) (xss_cons (xs_setIx (ps_asg (xe_var (pv 4)) (pg_sub (pv 2) (xe_vb (xe_op o_addA (xe_vb (xe_var (pv 4))) (xe_vb xe_int))) set_list))) (xss_cons (xs_setIx (ps_asg (xe_var (pv 4)) (pg_sub (pv 2) (xe_vb (xe_op o_addA (xe_vb (xe_var (pv 0))) (xe_vb (xe_var (pv 4))))) set_list))) (xss_one (xs_setIx (ps_asg (xe_var (pv 4)) (pg_sub (pv 2) (xe_vb (xe_op o_addA (xe_vb (xe_op o_addA (xe_vb (xe_var (pv 0))) (xe_vb (xe_var (pv 4))))) (xe_vb xe_int))) set_list))))))))))) (xss_frz 2 (xss_one (xs_ret (by decide) (xe_callC C_law_named (hr.mono (by omega)) hgd (by rfl) (xa_val (xe_var (pv 2)) xa_nil) (argN_val argN_nil)))))))))
abbrev s_law_upon : Stmt := topS 38
abbrev N_law_upon : List Str := ["cords_so", "near", "far", "marks", "at", "kept", "lost", "gone", "old", "new", "one"]
theorem sc_law_upon : FnScope N_law_upon ["cords_so", "near", "far"] (defScope s_law_upon) := ⟨rfl, rfl, rfl, by decide +kernel, rfl, by decide +kernel, by decide +kernel⟩
def m_law_upon : List Slot → Tr D := fnF 11 .v (sSeq (sSet 3 (e2 dAddA (eCompS (eVar 1) (gN 10) fYes (eVar 10) [10]) (eCompS (eVar 2) (gN 10) fYes (e2 dAddA (e2 dMul (eC (.int 2)) (eVar 0)) (eVar 10)) [10]))) (sSeq (sForR (lCons (eVar 0) lNil) (gN 4) (sSeq (sAsg (eTup (lCons (e2 dIx (eVar 3) (e2 dAddA (e2 dMul (eC (.int 2)) (eVar 0)) (eVar 4))) (lCons (e2 dIx (eVar 3) (e2 dAddA (eVar 0) (eVar 4))) lNil))) (gT 2 (gsCons (gN 8) (gsCons (gN 9) gsNil)))) (sIf (tt (e2 dNe (eVar 8) (eVar 9))) (sSet 3 (eCompS (eVar 3) (gN 10) fYes (eIf (tt (e2 dEq (eVar 10) (eVar 8))) (eVar 9) (eVar 10)) [10])) sNext))) (sSeq (sSet 5 (e2 dAddA (eSl dSlA (eVar 3) oNone (oSome (eVar 0))) (eSl dSlA (eVar 3) (oSome (e2 dMul (eC (.int 3)) (eVar 0))) oNone))) (sSeq (sSet 6 (eCompS (eSl dSlA (eVar 3) (oSome (eVar 0)) (oSome (e2 dMul (eC (.int 2)) (eVar 0)))) (gN 10) (tt (e2 (dIn true) (eVar 10) (eVar 5))) (eVar 10) [10])) (sSeq (sSet 7 (eCompR (lCons (eCB dLenA (lCons (eVar 6) lNil)) lNil) (gN 4) (tt (e2 (dIn true) (e2 dIx (eVar 6) (eVar 4)) (eSl dSlA (eVar 6) oNone (oSome (eVar 4))))) (e2 dIx (eVar 6) (eVar 4)) [4])) (sRet (eTup (lCons (eCall m_law_named (aVal (eVar 5) aNil)) (lCons (eCB dLenA (lCons (eVar 7) lNil)) lNil)))))))))
theorem ok_law_upon {f : Addr} {fd : FuncData} (F : Fun K "_law_upon" "_law_upon" s_law_upon f fd) (B : Bt K mg) (C_law_named : Cal P w K mg base "_law_named" 1 ["marks"] (spD K .v 1 m_law_named)) : FnG P w K mg base 2 f fd ["cords_so", "near", "far"] (spD K .v 3 m_law_upon) :=
  fn_ok F sc_law_upon fun cdv A outer s H E hr hgd => (have hu := hr.units; have hu1 := hu_of hr; have nd := sc_law_upon.nd; (xss_cons (xs_set (i := 3) nd rfl (Or.inl rfl) (xe_op o_addA (xe_vb (xe_ov (xe_compS (own_name 10) yes_ok (pe_lc (own := [("one", 10)]) (g := (gName 10)) rfl nd (pi_seq (xe_vb (xe_var (pv 1)))) (blkOk_by (own := [("one", 10)]) (N := N_law_upon) (sc := defScope s_law_upon) (by decide +kernel)) (fun _ _ _ _ _ => pg_name (i := 10) nd rfl (Or.inl rfl)) (fun _ _ _ _ _ => pts_nil) (fun _ _ _ _ _ => (xe_var (pv 10))))))) (xe_vb (xe_ov (xe_compS (own_name 10) yes_ok (pe_lc (own := [("one", 10)]) (g := (gName 10)) rfl nd (pi_seq (xe_vb (xe_var (pv 2)))) (blkOk_by (own := [("one", 10)]) (N := N_law_upon) (sc := defScope s_law_upon) (by decide +kernel)) (fun _ _ _ _ _ => pg_name (i := 10) nd rfl (Or.inl rfl)) (fun _ _ _ _ _ => pts_nil) (fun _ _ _ _ _ => (xe_op o_addA (xe_vb (xe_op o_mul (xe_vb xe_int) (xe_vb (xe_var (pv 0))))) (xe_vb (xe_var (pv 10))))))))))) (xss_cons (xs_forR1 (ps_for PassesOwn.never rfl (pi_range1 (by rfl) B.b_range (xlb_cons (xe_vb (xe_var (pv 0))) xlb_nil)) (xg_name (pg_name (i := 4) nd rfl (Or.inl rfl))) (xss_cons (xs_asg (ps_asg (xe_tup (xl_cons (xe_ix (xe_vb (xe_var (pv 3))) (xe_vb (xe_op o_addA (xe_vb (xe_op o_mul (xe_vb xe_int) (xe_vb (xe_var (pv 0))))) (xe_vb (xe_var (pv 4))))) (fun _ _ => rfl)) (xl_cons (xe_ix (xe_vb (xe_var (pv 3))) (xe_vb (xe_op o_addA (xe_vb (xe_var (pv 0))) (xe_vb (xe_var (pv 4))))) (fun _ _ => rfl)) xl_nil))) (xg_tup rfl (xgs_cons (xg_name (pg_name (i := 8) nd rfl (Or.inr rfl))) (xgs_cons (xg_name (pg_name (i := 9) nd rfl (Or.inr rfl))) xgs_nil))))) (xss_one (xs_if (xt_cmp (o_ne hu) (xe_vb (xe_var (pv 8))) (xe_vb (xe_var (pv 9))) (nomark _)) (xss_one (xs_setLcV (ps_setLc (i := 3) (own := [("one", 10)]) (g := (gName 10)) rfl nd rfl rfl (sw_true rfl rfl rfl (by decide +kernel)) (pi_seq (xe_vb (xe_var (pv 3)))) (blkOk_by (own := [("one", 10)]) (N := N_law_upon) (sc := defScope s_law_upon) (by decide +kernel)) (fun _ _ _ _ _ => pg_name (i := 10) nd rfl (Or.inl rfl)) (fun _ _ _ _ _ => pts_nil) (fun _ _ _ _ _ => (xe_if (xt_cmp (o_eq hu) (xe_vb (xe_var (pv 10))) (xe_vb (xe_var (pv 8))) (nomark _)) (xe_var (pv 9)) (xe_var (pv 10))))) (fun _ _ _ q => (rd_compS (own_name 10) yes_ok) _ _ _ (readOV q)))) xss_nil)))) (lenN_cons lenN_nil)) (xss_cons (xs_set (i := 5) nd rfl (Or.inr rfl) (xe_op o_addA (xe_vb (xe_slice x_slA (xe_vb (xe_var (pv 3))) xo_none (xo_some (xe_vb (xe_var (pv 0)))))) (xe_vb (xe_slice x_slA (xe_vb (xe_var (pv 3))) (xo_some (xe_vb (xe_op o_mul (xe_vb xe_int) (xe_vb (xe_var (pv 0)))))) xo_none)))) (xss_cons (xs_set (i := 6) nd rfl (Or.inr rfl) (xe_ov (xe_compS (own_name 10) (fun _ _ _ q => q) (pe_lc (own := [("one", 10)]) (g := (gName 10)) rfl nd (pi_seq (xe_vb (xe_slice x_slA (xe_vb (xe_var (pv 3))) (xo_some (xe_vb (xe_var (pv 0)))) (xo_some (xe_vb (xe_op o_mul (xe_vb xe_int) (xe_vb (xe_var (pv 0))))))))) (blkOk_by (own := [("one", 10)]) (N := N_law_upon) (sc := defScope s_law_upon) (by decide +kernel)) (fun _ _ _ _ _ => pg_name (i := 10) nd rfl (Or.inl rfl)) (fun _ _ _ _ _ => pts_one (xt_cmp o_notin (xe_vb (xe_var (pv 10))) (xe_vb (xe_var (pv 5))) (by with_unfolding_all rfl))) (fun _ _ _ _ _ => (xe_var (pv 10))))))) (xss_cons (xs_setLcV (ps_setLc (i := 7) (own := [("at", 4)]) (g := (gName 4)) rfl nd rfl rfl (sw_true rfl rfl rfl (by decide +kernel)) (pi_range1 (by rfl) B.b_range (xlb_cons (xe_vb (xe_callB c_lenA (by rfl) B.b_len (by decide +kernel) (xlb_cons (xe_vb (xe_var (pv 6))) xlb_nil))) xlb_nil)) (blkOk_by (own := [("at", 4)]) (N := N_law_upon) (sc := defScope s_law_upon) (by decide +kernel)) (fun _ _ _ _ _ => pg_name (i := 4) nd rfl (Or.inl rfl)) (fun _ _ _ _ _ => pts_one (xt_cmp o_notin (xe_vb (xe_ix (xe_vb (xe_var (pv 6))) (xe_vb (xe_var (pv 4))) (fun _ _ => rfl))) (xe_vb (xe_slice x_slA (xe_vb (xe_var (pv 6))) xo_none (xo_some (xe_vb (xe_var (pv 4)))))) (by with_unfolding_all rfl))) (fun _ _ _ _ _ => (xe_ix (xe_vb (xe_var (pv 6))) (xe_vb (xe_var (pv 4))) (fun _ _ => rfl)))) (fun _ _ _ q => (rd_compR1 (own_name 4) (fun _ _ _ q => q) (lenN_cons lenN_nil)) _ _ _ (readOV q))) (xss_one (xs_ret (by decide) (xe_tup (xl_cons (xe_callC C_law_named (hr.mono (by omega)) hgd (by rfl) (xa_val (xe_var (pv 5)) xa_nil) (argN_val argN_nil)) (xl_cons (xe_callB c_lenA (by rfl) B.b_len (by decide +kernel) (xlb_cons (xe_vb (xe_var (pv 7))) xlb_nil)) xl_nil)))))))))))
abbrev s_law_figure : Stmt := topS 39
abbrev N_law_figure : List Str := ["cords_so", "row_so", "deed", "found", "left", "more"]
theorem sc_law_figure : FnScope N_law_figure ["cords_so", "row_so"] (defScope s_law_figure) := ⟨rfl, rfl, rfl, by decide +kernel, rfl, by decide +kernel, by decide +kernel⟩
def m_law_figure : List Slot → Tr D := fnF 6 .v (sSeq (sPar false false 3 4 (eCall m_law_straight (aVal (eVar 0) aNil)) (eC (.int 0))) (sSeq (sForS (eVar 1) (gN 2) (sSeq (sAsg (eCall m_law_upon (aVal (eVar 0) (aVal (eVar 3) (aVal (eCall m_law_deed (aVal (eVar 0) (aVal (eVar 2) aNil))) aNil)))) (gT 2 (gsCons (gN 3) (gsCons (gN 5) gsNil)))) (sSet 4 (e2 dAddA (eVar 4) (eVar 5))))) (sRet (eTup (lCons (eVar 3) (lCons (eVar 4) lNil))))))
theorem ok_law_figure {f : Addr} {fd : FuncData} (F : Fun K "_law_figure" "_law_figure" s_law_figure f fd) (B : Bt K mg) (C_law_straight : Cal P w K mg base "_law_straight" 1 ["cords_so"] (spD K .v 1 m_law_straight)) (C_law_deed : Cal P w K mg base "_law_deed" 2 ["cords_so", "deed"] (spD K .v 2 m_law_deed)) (C_law_upon : Cal P w K mg base "_law_upon" 2 ["cords_so", "near", "far"] (spD K .v 3 m_law_upon)) : FnG P w K mg base 3 f fd ["cords_so", "row_so"] (spD K .v 2 m_law_figure) :=
  fn_ok F sc_law_figure fun cdv A outer s H E hr hgd => (have hu := hr.units; have hu1 := hu_of hr; have nd := sc_law_figure.nd; (xss_cons (xs_par (o1 := false) (o2 := false) (ps_par rfl nd rfl rfl (by decide) rfl rfl (pa_cons (xe_callC C_law_straight (hr.mono (by omega)) hgd (by rfl) (xa_val (xe_var (pv 0)) xa_nil) (argN_val argN_nil)) (pa_cons xe_int pa_nil)) (by rfl))) (xss_cons (xs_forS (ps_for PassesOwn.never rfl (pi_seq (xe_var (pv 1))) (xg_name (pg_name (i := 2) nd rfl (Or.inl rfl))) (xss_cons (xs_asg (ps_asg (xe_callC C_law_upon (hr.mono (by omega)) hgd (by rfl) (xa_val (xe_var (pv 0)) (xa_val (xe_var (pv 3)) (xa_val (xe_callC C_law_deed (hr.mono (by omega)) hgd (by rfl) (xa_val (xe_var (pv 0)) (xa_val (xe_var (pv 2)) xa_nil)) (argN_val (argN_val argN_nil))) xa_nil))) (argN_val (argN_val (argN_val argN_nil)))) (xg_tup rfl (xgs_cons (xg_name (pg_name (i := 3) nd rfl (Or.inl rfl))) (xgs_cons (xg_name (pg_name (i := 5) nd rfl (Or.inl rfl))) xgs_nil))))) (xss_one (xs_set (i := 4) nd rfl (Or.inl rfl) (xe_op o_addA (xe_vb (xe_var (pv 4))) (xe_vb (xe_var (pv 5))))))))) (xss_one (xs_ret (by decide) (xe_tup (xl_cons (xe_var (pv 3)) (xl_cons (xe_var (pv 4)) xl_nil))))))))
abbrev s_law_deeds : Stmt := topS 40
abbrev N_law_deeds : List Str := ["cords_so", "family_so", "found", "word", "place"]
theorem sc_law_deeds : FnScope N_law_deeds ["cords_so", "family_so"] (defScope s_law_deeds) := ⟨rfl, rfl, rfl, by decide +kernel, rfl, by decide +kernel, by decide +kernel⟩
def m_law_deeds : List Slot → Tr D := fnF 5 .v (sSeq (sSet 2 (eLst lNil)) (sSeq (sForS (eVar 1) (gN 3) (sSet 2 (e2 dAddA (eVar 2) (eCompR (lCons (e2 dSub (eVar 0) (eCB dInt1 (lCons (e2 dNe (eVar 3) (eC (.str "cut"))) lNil))) lNil) (gN 4) fYes (eTup (lCons (eVar 3) (lCons (eVar 4) lNil))) [4])))) (sRet (eVar 2))))
theorem ok_law_deeds {f : Addr} {fd : FuncData} (F : Fun K "_law_deeds" "_law_deeds" s_law_deeds f fd) (B : Bt K mg)  : FnG P w K mg base 1 f fd ["cords_so", "family_so"] (spD K .v 2 m_law_deeds) :=
  fn_ok F sc_law_deeds fun cdv A outer s H E hr hgd => (have hu := hr.units; have hu1 := hu_of hr; have nd := sc_law_deeds.nd; (xss_cons (xs_set (i := 2) nd rfl (Or.inl rfl) (xe_ov (xe_lst xl_nil))) (xss_cons (xs_forS (ps_for PassesOwn.never rfl (pi_seq (xe_var (pv 1))) (xg_name (pg_name (i := 3) nd rfl (Or.inr rfl))) (xss_one (xs_set (i := 2) nd rfl (Or.inl rfl) (xe_op o_addA (xe_vb (xe_var (pv 2))) (xe_vb (xe_ov (xe_compR1 (own_name 4) yes_ok (lenN_cons lenN_nil) (pe_lc (own := [("place", 4)]) (g := (gName 4)) rfl nd (pi_range1 (by rfl) B.b_range (xlb_cons (xe_vb (xe_op o_sub (xe_vb (xe_var (pv 0))) (xe_vb (xe_callT c_int (by rfl) B.b_int (by decide +kernel) (xlb_cons (xe_vb (xe_cmp (o_ne hu) (xe_vb (xe_var (pv 3))) (xe_vb xe_str) (nomark _))) xlb_nil))))) xlb_nil)) (blkOk_by (own := [("place", 4)]) (N := N_law_deeds) (sc := defScope s_law_deeds) (by decide +kernel)) (fun _ _ _ _ _ => pg_name (i := 4) nd rfl (Or.inl rfl)) (fun _ _ _ _ _ => pts_nil) (fun _ _ _ _ _ => (xe_tup (xl_cons (xe_var (pv 3)) (xl_cons (xe_var (pv 4)) xl_nil))))))))))))) (xss_one (xs_ret (by decide) (xe_var (pv 2)))))))
abbrev s_law_row : Stmt := topS 41
abbrev N_law_row : List Str := ["m", "cords_so", "family_so", "most", "some", "turn"]
theorem sc_law_row : FnScope N_law_row ["m", "cords_so", "family_so", "most"] (defScope s_law_row) := ⟨rfl, rfl, rfl, by decide +kernel, rfl, by decide +kernel, by decide +kernel⟩
def m_law_row : List Slot → Tr D := fnF 6 .v (sSeq (sSet 4 (eCall m_law_deeds (aVal (eVar 1) (aVal (eVar 2) aNil)))) (sSeq (sIf (tt (e2 dEq (eVar 4) (eLst lNil))) (sRet (eTup lNil)) sNext) (sRet (eCB dTuple (lCons (eCompR (lCons (eCall m_law_draw (aOrc 0 (aVal (e2 dAddA (eVar 3) (eC (.int 1))) aNil))) lNil) (gN 5) fYes (eCall m_law_of (aOrc 0 (aVal (eVar 4) aNil))) [5]) lNil)))))
theorem ok_law_row {f : Addr} {fd : FuncData} (F : Fun K "_law_row" "_law_row" s_law_row f fd) (B : Bt K mg) (C_law_deeds : Cal P w K mg base "_law_deeds" 1 ["cords_so", "family_so"] (spD K .v 2 m_law_deeds)) (C_law_draw : Cal P w K mg base "_law_draw" 2 ["m", "limit"] (spD K .v 2 m_law_draw)) (C_law_of : Cal P w K mg base "_law_of" 3 ["m", "some"] (spD K .v 2 m_law_of)) : FnG P w K mg base 4 f fd ["m", "cords_so", "family_so", "most"] (spD K .v 4 m_law_row) :=
  fn_ok F sc_law_row fun cdv A outer s H E hr hgd => (have hu := hr.units; have hu1 := hu_of hr; have nd := sc_law_row.nd; (xss_cons (xs_set (i := 4) nd rfl (Or.inr rfl) (xe_callC C_law_deeds (hr.mono (by omega)) hgd (by rfl) (xa_val (xe_var (pv 1)) (xa_val (xe_var (pv 2)) xa_nil)) (argN_val (argN_val argN_nil)))) (xss_cons (xs_if (xt_cmp (o_eq hu) (xe_vb (xe_var (pv 4))) (xe_vb (xe_ov (xe_lst xl_nil))) (nomark _)) (xss_one (xs_ret (by decide) (xe_tup xl_nil))) xss_nil) (xss_one (xs_ret (by decide) (xe_callT c_tuple (by rfl) B.b_tuple (by decide +kernel) (xlb_cons (xe_vb (xe_ov (xe_compR1 (own_name 5) yes_ok (lenN_cons lenN_nil) (pe_lc (own := [("turn", 5)]) (g := (gName 5)) rfl nd (pi_range1 (by rfl) B.b_range (xlb_cons (xe_vb (xe_callC C_law_draw (hr.mono (by omega)) hgd (by rfl) (xa_orc (pv 0) (xa_val (xe_op o_addA (xe_vb (xe_var (pv 3))) (xe_vb xe_int)) xa_nil)) (argN_orc (argN_val argN_nil)))) xlb_nil)) (blkOk_by (own := [("turn", 5)]) (N := N_law_row) (sc := defScope s_law_row) (by decide +kernel)) (fun _ _ _ _ _ => pg_name (i := 5) nd rfl (Or.inl rfl)) (fun _ _ _ _ _ => pts_nil) (fun _ _ _ _ _ => (xe_callC C_law_of (hr.mono (by omega)) hgd (by rfl) (xa_orc (pv 0) (xa_val (xe_var (pv 4)) xa_nil)) (argN_orc (argN_val argN_nil)))))))) xlb_nil)))))))
abbrev s_law_some_family : Stmt := topS 42
abbrev N_law_some_family : List Str := ["m", "found", "word"]
theorem sc_law_some_family : FnScope N_law_some_family ["m"] (defScope s_law_some_family) := ⟨rfl, rfl, rfl, by decide +kernel, rfl, by decide +kernel, by decide +kernel⟩
def m_law_some_family : List Slot → Tr D := fnF 3 .v (sSeq (sSet 1 (eCompS (eTup (lCons (eC (.str "cut")) (lCons (eC (.str "hook")) (lCons (eC (.str "join")) (lCons (eC (.str "swap")) lNil))))) (gN 2) (tt (e2 dEq (eCall m_law_draw (aOrc 0 (aVal (eC (.int 2)) aNil))) (eC (.int 0)))) (eVar 2) [2])) (sRet (eIf (tt (e2 dNe (eVar 1) (eLst lNil))) (eCB dTuple (lCons (eVar 1) lNil)) (eTup (lCons (eCall m_law_of (aOrc 0 (aVal (eLst (lCons (eC (.str "cut")) (lCons (eC (.str "hook")) (lCons (eC (.str "join")) (lCons (eC (.str "swap")) lNil))))) aNil))) lNil)))))
theorem ok_law_some_family {f : Addr} {fd : FuncData} (F : Fun K "_law_some_family" "_law_some_family" s_law_some_family f fd) (B : Bt K mg) (C_law_draw : Cal P w K mg base "_law_draw" 2 ["m", "limit"] (spD K .v 2 m_law_draw)) (C_law_of : Cal P w K mg base "_law_of" 3 ["m", "some"] (spD K .v 2 m_law_of)) : FnG P w K mg base 4 f fd ["m"] (spD K .v 1 m_law_some_family) :=
  fn_ok F sc_law_some_family fun cdv A outer s H E hr hgd => (have hu := hr.units; have hu1 := hu_of hr; have nd := sc_law_some_family.nd; (xss_cons (xs_setLcV (ps_setLc (i := 1) (own := [("word", 2)]) (g := (gName 2)) rfl nd rfl rfl (sw_true rfl rfl rfl (by decide +kernel)) (pi_seq (xe_vb (xe_tup (xl_cons xe_str (xl_cons xe_str (xl_cons xe_str (xl_cons xe_str xl_nil))))))) (blkOk_by (own := [("word", 2)]) (N := N_law_some_family) (sc := defScope s_law_some_family) (by decide +kernel)) (fun _ _ _ _ _ => pg_name (i := 2) nd rfl (Or.inl rfl)) (fun _ _ _ _ _ => pts_one (xt_cmp (o_eq hu) (xe_vb (xe_callC C_law_draw (hr.mono (by omega)) hgd (by rfl) (xa_orc (pv 0) (xa_val xe_int xa_nil)) (argN_orc (argN_val argN_nil)))) (xe_vb xe_int) (nomark _))) (fun _ _ _ _ _ => (xe_var (pv 2)))) (fun _ _ _ q => (rd_compS (own_name 2) (fun _ _ _ q => q)) _ _ _ (readOV q))) (xss_one (xs_ret (by decide) (xe_if (xt_cmp (o_ne hu) (xe_vb (xe_var (pv 1))) (xe_vb (xe_ov (xe_lst xl_nil))) (nomark _)) (xe_callT c_tuple (by rfl) B.b_tuple (by decide +kernel) (xlb_cons (xe_vb (xe_var (pv 1))) xlb_nil)) (xe_tup (xl_cons (xe_callC C_law_of (hr.mono (by omega)) hgd (by rfl) (xa_orc (pv 0) (xa_val (xe_ov (xe_lst (xl_cons xe_str (xl_cons xe_str (xl_cons xe_str (xl_cons xe_str xl_nil)))))) xa_nil)) (argN_orc (argN_val argN_nil))) xl_nil)))))))
abbrev s_law_some_figure : Stmt := topS 43
abbrev N_law_some_figure : List Str := ["m", "cords_so", "point"]
theorem sc_law_some_figure : FnScope N_law_some_figure ["m", "cords_so"] (defScope s_law_some_figure) := ⟨rfl, rfl, rfl, by decide +kernel, rfl, by decide +kernel, by decide +kernel⟩
def m_law_some_figure : List Slot → Tr D := fnF 3 .v (sRet (eCall m_law_named (aVal (eCompR (lCons (e2 dMul (eC (.int 2)) (eVar 1)) lNil) (gN 2) fYes (eCall m_law_draw (aOrc 0 (aVal (e2 dAddA (eC (.int 1)) (e2 dMul (eC (.int 2)) (eVar 1))) aNil))) [2]) aNil)))
theorem ok_law_some_figure {f : Addr} {fd : FuncData} (F : Fun K "_law_some_figure" "_law_some_figure" s_law_some_figure f fd) (B : Bt K mg) (C_law_draw : Cal P w K mg base "_law_draw" 2 ["m", "limit"] (spD K .v 2 m_law_draw)) (C_law_named : Cal P w K mg base "_law_named" 1 ["marks"] (spD K .v 1 m_law_named)) : FnG P w K mg base 3 f fd ["m", "cords_so"] (spD K .v 2 m_law_some_figure) :=
  fn_ok F sc_law_some_figure fun cdv A outer s H E hr hgd => (have hu := hr.units; have hu1 := hu_of hr; have nd := sc_law_some_figure.nd; (xss_one (xs_ret (by decide) (xe_callC C_law_named (hr.mono (by omega)) hgd (by rfl) (xa_val (xe_ov (xe_compR1 (own_name 2) yes_ok (lenN_cons lenN_nil) (pe_lc (own := [("point", 2)]) (g := (gName 2)) rfl nd (pi_range1 (by rfl) B.b_range (xlb_cons (xe_vb (xe_op o_mul (xe_vb xe_int) (xe_vb (xe_var (pv 1))))) xlb_nil)) (blkOk_by (own := [("point", 2)]) (N := N_law_some_figure) (sc := defScope s_law_some_figure) (by decide +kernel)) (fun _ _ _ _ _ => pg_name (i := 2) nd rfl (Or.inl rfl)) (fun _ _ _ _ _ => pts_nil) (fun _ _ _ _ _ => (xe_callC C_law_draw (hr.mono (by omega)) hgd (by rfl) (xa_orc (pv 0) (xa_val (xe_op o_addA (xe_vb xe_int) (xe_vb (xe_op o_mul (xe_vb xe_int) (xe_vb (xe_var (pv 1)))))) xa_nil)) (argN_orc (argN_val argN_nil))))))) xa_nil) (argN_val argN_nil)))))
abbrev s_law_kinds : Stmt := topS 45
abbrev N_law_kinds : List Str := ["marks", "at"]
theorem sc_law_kinds : FnScope N_law_kinds ["marks"] (defScope s_law_kinds) := ⟨rfl, rfl, rfl, by decide +kernel, rfl, by decide +kernel, by decide +kernel⟩
def m_law_kinds : List Slot → Tr D := fnF 2 .v (sRet (eCompR (lCons (eCB dLenA (lCons (eVar 0) lNil)) lNil) (gN 1) (tt (e2 (dIn true) (e2 dIx (eVar 0) (eVar 1)) (eSl dSlA (eVar 0) oNone (oSome (eVar 1))))) (e2 dIx (eVar 0) (eVar 1)) [1]))
theorem ok_law_kinds {f : Addr} {fd : FuncData} (F : Fun K "_law_kinds" "_law_kinds" s_law_kinds f fd) (B : Bt K mg)  : FnG P w K mg base 1 f fd ["marks"] (spD K .v 1 m_law_kinds) :=
  fn_ok F sc_law_kinds fun cdv A outer s H E hr hgd => (have hu := hr.units; have hu1 := hu_of hr; have nd := sc_law_kinds.nd; (xss_one (xs_ret (by decide) (xe_ov (xe_compR1 (own_name 1) (fun _ _ _ q => q) (lenN_cons lenN_nil) (pe_lc (own := [("at", 1)]) (g := (gName 1)) rfl nd (pi_range1 (by rfl) B.b_range (xlb_cons (xe_vb (xe_callB c_lenA (by rfl) B.b_len (by decide +kernel) (xlb_cons (xe_vb (xe_var (pv 0))) xlb_nil))) xlb_nil)) (blkOk_by (own := [("at", 1)]) (N := N_law_kinds) (sc := defScope s_law_kinds) (by decide +kernel)) (fun _ _ _ _ _ => pg_name (i := 1) nd rfl (Or.inl rfl)) (fun _ _ _ _ _ => pts_one (xt_cmp o_notin (xe_vb (xe_ix (xe_vb (xe_var (pv 0))) (xe_vb (xe_var (pv 1))) (fun _ _ => rfl))) (xe_vb (xe_slice x_slA (xe_vb (xe_var (pv 0))) xo_none (xo_some (xe_vb (xe_var (pv 1)))))) (by with_unfolding_all rfl))) (fun _ _ _ _ _ => (xe_ix (xe_vb (xe_var (pv 0))) (xe_vb (xe_var (pv 1))) (fun _ _ => rfl)))))))))
abbrev s_law_rings : Stmt := topS 44
abbrev N_law_rings : List Str := ["cords_so", "figure_so", "marks", "at", "old", "new", "one"]
theorem sc_law_rings : FnScope N_law_rings ["cords_so", "figure_so"] (defScope s_law_rings) := ⟨rfl, rfl, rfl, by decide +kernel, rfl, by decide +kernel, by decide +kernel⟩
def m_law_rings : List Slot → Tr D := fnF 7 .v (sSeq (sSet 2 (eCB dList (lCons (eVar 1) lNil))) (sSeq (sForR (lCons (eVar 0) lNil) (gN 3) (sSeq (sAsg (eTup (lCons (e2 dIx (eVar 2) (e2 dAddA (eVar 0) (eVar 3))) (lCons (e2 dIx (eVar 2) (eVar 3)) lNil))) (gT 2 (gsCons (gN 4) (gsCons (gN 5) gsNil)))) (sSet 2 (eCompS (eVar 2) (gN 6) fYes (eIf (tt (e2 dEq (eVar 6) (eVar 4))) (eVar 5) (eVar 6)) [6])))) (sRet (eCB dLenA (lCons (eCall m_law_kinds (aVal (eSl dSlA (eVar 2) oNone (oSome (eVar 0))) aNil)) lNil)))))
theorem ok_law_rings {f : Addr} {fd : FuncData} (F : Fun K "_law_rings" "_law_rings" s_law_rings f fd) (B : Bt K mg) (C_law_kinds : Cal P w K mg base "_law_kinds" 1 ["marks"] (spD K .v 1 m_law_kinds)) : FnG P w K mg base 2 f fd ["cords_so", "figure_so"] (spD K .v 2 m_law_rings) :=
  fn_ok F sc_law_rings fun cdv A outer s H E hr hgd => (have hu := hr.units; have hu1 := hu_of hr; have nd := sc_law_rings.nd; (xss_cons (xs_set (i := 2) nd rfl (Or.inl rfl) (xe_ov (xe_callT c_list (by rfl) B.b_list (by decide +kernel) (xlb_cons (xe_vb (xe_var (pv 1))) xlb_nil)))) (xss_cons (xs_forR1 (ps_for PassesOwn.never rfl (pi_range1 (by rfl) B.b_range (xlb_cons (xe_vb (xe_var (pv 0))) xlb_nil)) (xg_name (pg_name (i := 3) nd rfl (Or.inl rfl))) (xss_cons (xs_asg (ps_asg (xe_tup (xl_cons (xe_ix (xe_vb (xe_var (pv 2))) (xe_vb (xe_op o_addA (xe_vb (xe_var (pv 0))) (xe_vb (xe_var (pv 3))))) (fun _ _ => rfl)) (xl_cons (xe_ix (xe_vb (xe_var (pv 2))) (xe_vb (xe_var (pv 3))) (fun _ _ => rfl)) xl_nil))) (xg_tup rfl (xgs_cons (xg_name (pg_name (i := 4) nd rfl (Or.inr rfl))) (xgs_cons (xg_name (pg_name (i := 5) nd rfl (Or.inr rfl))) xgs_nil))))) (xss_one (xs_setLcV (ps_setLc (i := 2) (own := [("one", 6)]) (g := (gName 6)) rfl nd rfl rfl (sw_true rfl rfl rfl (by decide +kernel)) (pi_seq (xe_vb (xe_var (pv 2)))) (blkOk_by (own := [("one", 6)]) (N := N_law_rings) (sc := defScope s_law_rings) (by decide +kernel)) (fun _ _ _ _ _ => pg_name (i := 6) nd rfl (Or.inl rfl)) (fun _ _ _ _ _ => pts_nil) (fun _ _ _ _ _ => (xe_if (xt_cmp (o_eq hu) (xe_vb (xe_var (pv 6))) (xe_vb (xe_var (pv 4))) (nomark _)) (xe_var (pv 5)) (xe_var (pv 6))))) (fun _ _ _ q => (rd_compS (own_name 6) yes_ok) _ _ _ (readOV q)))))) (lenN_cons lenN_nil)) (xss_one (xs_ret (by decide) (xe_callB c_lenA (by rfl) B.b_len (by decide +kernel) (xlb_cons (xe_vb (xe_callC C_law_kinds (hr.mono (by omega)) hgd (by rfl) (xa_val (xe_slice x_slA (xe_vb (xe_var (pv 2))) xo_none (xo_some (xe_vb (xe_var (pv 0))))) xa_nil) (argN_val argN_nil))) xlb_nil)))))))
abbrev s_law_both : Stmt := topS 46
abbrev N_law_both : List Str := ["cords_so", "near", "far", "found", "left"]
theorem sc_law_both : FnScope N_law_both ["cords_so", "near", "far"] (defScope s_law_both) := ⟨rfl, rfl, rfl, by decide +kernel, rfl, by decide +kernel, by decide +kernel⟩
def m_law_both : List Slot → Tr D := fnF 5 .v (sSeq (sAsg (eCall m_law_upon (aVal (eVar 0) (aVal (e2 dIx (eVar 1) (eC (.int 0))) (aVal (e2 dIx (eVar 2) (eC (.int 0))) aNil)))) (gT 2 (gsCons (gN 3) (gsCons (gN 4) gsNil)))) (sRet (eTup (lCons (eVar 3) (lCons (e2 dAddA (e2 dAddA (e2 dIx (eVar 1) (eC (.int 1))) (e2 dIx (eVar 2) (eC (.int 1)))) (eVar 4)) lNil)))))
theorem ok_law_both {f : Addr} {fd : FuncData} (F : Fun K "_law_both" "_law_both" s_law_both f fd) (B : Bt K mg) (C_law_upon : Cal P w K mg base "_law_upon" 2 ["cords_so", "near", "far"] (spD K .v 3 m_law_upon)) : FnG P w K mg base 3 f fd ["cords_so", "near", "far"] (spD K .v 3 m_law_both) :=
  fn_ok F sc_law_both fun cdv A outer s H E hr hgd => (have hu := hr.units; have hu1 := hu_of hr; have nd := sc_law_both.nd; (xss_cons (xs_asg (ps_asg (xe_callC C_law_upon (hr.mono (by omega)) hgd (by rfl) (xa_val (xe_var (pv 0)) (xa_val (xe_ix (xe_vb (xe_var (pv 1))) (xe_vb xe_int) (fun _ _ => rfl)) (xa_val (xe_ix (xe_vb (xe_var (pv 2))) (xe_vb xe_int) (fun _ _ => rfl)) xa_nil))) (argN_val (argN_val (argN_val argN_nil)))) (xg_tup rfl (xgs_cons (xg_name (pg_name (i := 3) nd rfl (Or.inl rfl))) (xgs_cons (xg_name (pg_name (i := 4) nd rfl (Or.inl rfl))) xgs_nil))))) (xss_one (xs_ret (by decide) (xe_tup (xl_cons (xe_var (pv 3)) (xl_cons (xe_op o_addA (xe_vb (xe_op o_addA (xe_vb (xe_ix (xe_vb (xe_var (pv 1))) (xe_vb xe_int) (fun _ _ => rfl))) (xe_vb (xe_ix (xe_vb (xe_var (pv 2))) (xe_vb xe_int) (fun _ _ => rfl))))) (xe_vb (xe_var (pv 4)))) xl_nil)))))))
abbrev s_law_times : Stmt := topS 47
abbrev N_law_times : List Str := ["cords_so", "figure_so", "many_so", "turn", "found", "base"]
theorem sc_law_times : FnScope N_law_times ["cords_so", "figure_so", "many_so"] (defScope s_law_times) := ⟨rfl, rfl, rfl, by decide +kernel, rfl, by decide +kernel, by decide +kernel⟩
def m_law_times : List Slot → Tr D := fnF 6 .v (sSeq (sPar false false 4 5 (eTup (lCons (eCall m_law_straight (aVal (eVar 0) aNil)) (lCons (eC (.int 0)) lNil))) (eTup (lCons (eVar 1) (lCons (eC (.int 0)) lNil)))) (sSeq (sForR (lCons (eC (.int 31)) lNil) (gN 3) (sSeq (sIf (tt (e2 dEq (e2 dMod (eCB dInt1 (lCons (eVar 2) lNil)) (eC (.int 2))) (eC (.int 1)))) (sSet 4 (eCall m_law_both (aVal (eVar 0) (aVal (eVar 4) (aVal (eVar 5) aNil))))) sNext) (sPar false false 5 2 (eCall m_law_both (aVal (eVar 0) (aVal (eVar 5) (aVal (eVar 5) aNil)))) (e2 dDiv (eVar 2) (eC (.int 2)))))) (sRet (eVar 4))))
theorem ok_law_times {f : Addr} {fd : FuncData} (F : Fun K "_law_times" "_law_times" s_law_times f fd) (B : Bt K mg) (C_law_straight : Cal P w K mg base "_law_straight" 1 ["cords_so"] (spD K .v 1 m_law_straight)) (C_law_both : Cal P w K mg base "_law_both" 3 ["cords_so", "near", "far"] (spD K .v 3 m_law_both)) : FnG P w K mg base 4 f fd ["cords_so", "figure_so", "many_so"] (spD K .v 3 m_law_times) :=
  fn_ok F sc_law_times fun cdv A outer s H E hr hgd => (have hu := hr.units; have hu1 := hu_of hr; have nd := sc_law_times.nd; (xss_cons (xs_par (o1 := false) (o2 := false) (ps_par rfl nd rfl rfl (by decide) rfl rfl (pa_cons (xe_tup (xl_cons (xe_callC C_law_straight (hr.mono (by omega)) hgd (by rfl) (xa_val (xe_var (pv 0)) xa_nil) (argN_val argN_nil)) (xl_cons xe_int xl_nil))) (pa_cons (xe_tup (xl_cons (xe_var (pv 1)) (xl_cons xe_int xl_nil))) pa_nil)) (by rfl))) (xss_cons (xs_forR1 (ps_for PassesOwn.never rfl (pi_range1 (by rfl) B.b_range (xlb_cons (xe_vb xe_int) xlb_nil)) (xg_name (pg_name (i := 3) nd rfl (Or.inl rfl))) (xss_cons (xs_if (xt_cmp (o_eq hu) (xe_vb (xe_op o_mod (xe_vb (xe_callT c_int (by rfl) B.b_int (by decide +kernel) (xlb_cons (xe_vb (xe_var (pv 2))) xlb_nil))) (xe_vb xe_int))) (xe_vb xe_int) (nomark _)) (xss_one (xs_set (i := 4) nd rfl (Or.inl rfl) (xe_callC C_law_both (hr.mono (by omega)) hgd (by rfl) (xa_val (xe_var (pv 0)) (xa_val (xe_var (pv 4)) (xa_val (xe_var (pv 5)) xa_nil))) (argN_val (argN_val (argN_val argN_nil)))))) xss_nil) (xss_one (xs_par (o1 := false) (o2 := false) (ps_par rfl nd rfl rfl (by decide) rfl rfl (pa_cons (xe_callC C_law_both (hr.mono (by omega)) hgd (by rfl) (xa_val (xe_var (pv 0)) (xa_val (xe_var (pv 5)) (xa_val (xe_var (pv 5)) xa_nil))) (argN_val (argN_val (argN_val argN_nil)))) (pa_cons (xe_op o_div (xe_vb (xe_var (pv 2))) (xe_vb xe_int)) pa_nil)) (by rfl)))))) (lenN_cons lenN_nil)) (xss_one (xs_ret (by decide) (xe_var (pv 4)))))))
abbrev s_law : Stmt := topS 48
abbrev N_law : List Str := ["script", "m", "turn", "cords_so", "figure_so", "many_so", "held", "left", "told", "more", "due"]
theorem sc_law : FnScope N_law ["script"] (defScope s_law) := ⟨rfl, rfl, rfl, by decide +kernel, rfl, by decide +kernel, by decide +kernel⟩
def m_rest : FS := (sSeq (sForR (lCons (e2 dAddA (eC (.int 1)) (eCB dMin2 (lCons (eC (.int 3)) (lCons (eCB dLenA (lCons (eVar 0) lNil)) lNil)))) lNil) (gN 2) (sSeq (sSet 3 (e2 dAddA (eC (.int 1)) (eCall m_law_draw (aOrc 1 (aVal (eC (.int 5)) aNil))))) (sSeq (sSet 4 (eCall m_law_some_figure (aOrc 1 (aVal (eVar 3) aNil)))) (sSeq (sIf (tt (e2 dEq (eCall m_law_draw (aOrc 1 (aVal (eC (.int 2)) aNil))) (eC (.int 0)))) (sSet 4 (e2 dIx (eCall m_law_figure (aVal (eVar 3) (aVal (eCall m_law_row (aOrc 1 (aVal (eVar 3) (aVal (eCall m_law_some_family (aOrc 1 aNil)) (aVal (eC (.int 9)) aNil))))) aNil))) (eC (.int 0)))) sNext) (sSeq (sPar false false 6 7 (eCall m_law_straight (aVal (eVar 3) aNil)) (eC (.int 0))) (sSeq (sForR (lCons (eC (.int 9)) lNil) (gN 5) (sSeq (sSetO 8 (eLst (lCons (eCall m_power (aVal (eVar 3) (aVal (eVar 4) (aVal (eVar 5) aNil)))) (lCons (eCall m_power_leftovers (aVal (eVar 3) (aVal (eVar 4) (aVal (eVar 5) aNil)))) lNil)))) (sSeq (sApp 8 (eCall m_power_rings (aVal (eVar 3) (aVal (eVar 4) (aVal (eVar 5) aNil))))) (fun env => (sSeq (sIf (bNot (tt (eCall m_law_like (aVal (eVar 8) (aVal (eLst (lCons (eVar 6) (lCons (eVar 7) (lCons (e2 dAddA (eCall m_law_rings (aVal (eVar 3) (aVal (eVar 6) aNil))) (eVar 7)) lNil)))) aNil))))) (sRet (eC (.bool false))) sNext) (sSeq (sAsg (eCall m_law_upon (aVal (eVar 3) (aVal (eVar 6) (aVal (eVar 4) aNil)))) (gT 2 (gsCons (gN 6) (gsCons (gN 9) gsNil)))) (sSet 7 (e2 dAddA (eVar 7) (eVar 9))))) (frz 8 env))))) (sForS (eTup (lCons (eCall m_law_draw (aOrc 1 (aVal (e2 dAddA (e2 dPow (eC (.int 10)) (eC (.int 9))) (eC (.int 1))) aNil))) (lCons (e2 dPow (eC (.int 10)) (eC (.int 9))) (lCons (eCall m_law_draw (aOrc 1 (aVal (eC (.int 200)) aNil))) lNil)))) (gN 5) (sSeq (sAsg (eCall m_law_times (aVal (eVar 3) (aVal (eVar 4) (aVal (eVar 5) aNil)))) (gT 2 (gsCons (gN 10) (gsCons (gN 7) gsNil)))) (sSeq (sSetO 8 (eLst (lCons (eCall m_power (aVal (eVar 3) (aVal (eVar 4) (aVal (eVar 5) aNil)))) (lCons (eCall m_power_leftovers (aVal (eVar 3) (aVal (eVar 4) (aVal (eVar 5) aNil)))) lNil)))) (sSeq (sApp 8 (eCall m_power_rings (aReo 3 [2, 1, 0] (aVal (eVar 5) (aVal (eVar 4) (aVal (eVar 3) aNil)))))) (fun env => (sIf (bNot (tt (eCall m_law_like (aVal (eVar 8) (aVal (eLst (lCons (eVar 10) (lCons (eVar 7) (lCons (e2 dAddA (eCall m_law_rings (aVal (eVar 3) (aVal (eVar 10) aNil))) (eVar 7)) lNil)))) aNil))))) (sRet (eC (.bool false))) sNext) (frz 8 env)))))))))))) (sRet (eC (.bool true))))
set_option maxHeartbeats 1000000 in
theorem ok_law {f : Addr} {fd : FuncData} (F : Fun K "law" "law" s_law f fd) (B : Bt K mg) (ok : RestOk 9 m_rest) (C_law_begun : Cal P w K mg base "_law_begun" 2 ["script"] (spBegun K)) (C_law_draw : Cal P w K mg base "_law_draw" 2 ["m", "limit"] (spD K .v 2 m_law_draw)) (C_law_some_figure : Cal P w K mg base "_law_some_figure" 3 ["m", "cords_so"] (spD K .v 2 m_law_some_figure)) (C_law_some_family : Cal P w K mg base "_law_some_family" 4 ["m"] (spD K .v 1 m_law_some_family)) (C_law_row : Cal P w K mg base "_law_row" 4 ["m", "cords_so", "family_so", "most"] (spD K .v 4 m_law_row)) (C_law_figure : Cal P w K mg base "_law_figure" 3 ["cords_so", "row_so"] (spD K .v 2 m_law_figure)) (C_law_straight : Cal P w K mg base "_law_straight" 1 ["cords_so"] (spD K .v 1 m_law_straight)) (C_power_leftovers : Cal P w K mg base "power_leftovers" 5 ["cords", "figure", "many"] (spD K .v 3 m_power_leftovers)) (C_power : Cal P w K mg base "power" 5 ["cords", "figure", "many"] (spD K .v 3 m_power)) (C_power_rings : Cal P w K mg base "power_rings" 5 ["cords", "figure", "many"] (spD K .v 3 m_power_rings)) (C_law_rings : Cal P w K mg base "_law_rings" 2 ["cords_so", "figure_so"] (spD K .v 2 m_law_rings)) (C_law_like : Cal P w K mg base "_law_like" 1 ["got", "due"] (spD K .v 2 m_law_like)) (C_law_upon : Cal P w K mg base "_law_upon" 2 ["cords_so", "near", "far"] (spD K .v 3 m_law_upon)) (C_law_times : Cal P w K mg base "_law_times" 4 ["cords_so", "figure_so", "many_so"] (spD K .v 3 m_law_times)) (P_power_rings_0 : CalK P w K mg base "power_rings" 5 ["cords", "figure", "many"] (reo 3 [2, 1, 0] .none) (reo 3 [2, 1, 0] .non) (spD K .v 3 m_power_rings) ["many", "figure", "cords"]) : FnG P w K mg base 6 f fd ["script"] (spLaw K) :=
  law_of_rest F sc_law (n := 9) (rest := m_rest) rfl (fun cdv A outer s H E hr hgd => ⟨_, fun _ _ _ q => q, (have hu := hr.units; have hu1 := hu_of hr; have nd := sc_law.nd; pss_cons (ps_set (i := 1) nd rfl (Or.inl rfl) (pe_callG C_law_begun (hr.mono (by omega)) hgd (by rfl) (pa_cons (pv 0) pa_nil))) (xss_cons (xs_forR1 (ps_for PassesOwn.never rfl (pi_range1 (by rfl) B.b_range (xlb_cons (xe_vb (xe_op o_addA (xe_vb xe_int) (xe_vb (xe_callB (c_min2 rfl) (by rfl) B.b_min (by decide +kernel) (xlb_cons (xe_vb xe_int) (xlb_cons (xe_vb (xe_callB c_lenA (by rfl) B.b_len (by decide +kernel) (xlb_cons (xe_vb (xe_var (pv 0))) xlb_nil))) xlb_nil)))))) xlb_nil)) (xg_name (pg_name (i := 2) nd rfl (Or.inl rfl))) (xss_cons (xs_set (i := 3) nd rfl (Or.inl rfl) (xe_op o_addA (xe_vb xe_int) (xe_vb (xe_callC C_law_draw (hr.mono (by omega)) hgd (by rfl) (xa_orc (pv 1) (xa_val xe_int xa_nil)) (argN_orc (argN_val argN_nil)))))) (xss_cons (xs_set (i := 4) nd rfl (Or.inl rfl) (xe_callC C_law_some_figure (hr.mono (by omega)) hgd (by rfl) (xa_orc (pv 1) (xa_val (xe_var (pv 3)) xa_nil)) (argN_orc (argN_val argN_nil)))) (xss_cons (xs_if (xt_cmp (o_eq hu) (xe_vb (xe_callC C_law_draw (hr.mono (by omega)) hgd (by rfl) (xa_orc (pv 1) (xa_val xe_int xa_nil)) (argN_orc (argN_val argN_nil)))) (xe_vb xe_int) (nomark _)) (xss_one (xs_set (i := 4) nd rfl (Or.inl rfl) (xe_ix (xe_vb (xe_callC C_law_figure (hr.mono (by omega)) hgd (by rfl) (xa_val (xe_var (pv 3)) (xa_val (xe_callC C_law_row (hr.mono (by omega)) hgd (by rfl) (xa_orc (pv 1) (xa_val (xe_var (pv 3)) (xa_val (xe_callC C_law_some_family (hr.mono (by omega)) hgd (by rfl) (xa_orc (pv 1) xa_nil) (argN_orc argN_nil)) (xa_val xe_int xa_nil)))) (argN_orc (argN_val (argN_val (argN_val argN_nil))))) xa_nil)) (argN_val (argN_val argN_nil)))) (xe_vb xe_int) (fun _ _ => rfl)))) xss_nil) (xss_cons (xs_par (o1 := false) (o2 := false) (ps_par rfl nd rfl rfl (by decide) rfl rfl (pa_cons (xe_callC C_law_straight (hr.mono (by omega)) hgd (by rfl) (xa_val (xe_var (pv 3)) xa_nil) (argN_val argN_nil)) (pa_cons xe_int pa_nil)) (by rfl))) (xss_cons (xs_forR1 (ps_for PassesOwn.never rfl (pi_range1 (by rfl) B.b_range (xlb_cons (xe_vb xe_int) xlb_nil)) (xg_name (pg_name (i := 5) nd rfl (Or.inl rfl))) (xss_cons (xs_setO (i := 8) nd rfl (Or.inl rfl) (xe_lst (xl_cons (xe_callC C_power (hr.mono (by omega)) hgd (by rfl) (xa_val (xe_var (pv 3)) (xa_val (xe_var (pv 4)) (xa_val (xe_var (pv 5)) xa_nil))) (argN_val (argN_val (argN_val argN_nil)))) (xl_cons (xe_callC C_power_leftovers (hr.mono (by omega)) hgd (by rfl) (xa_val (xe_var (pv 3)) (xa_val (xe_var (pv 4)) (xa_val (xe_var (pv 5)) xa_nil))) (argN_val (argN_val (argN_val argN_nil)))) xl_nil)))) (xss_cons (xs_app (ps_expr (pe_bm PySem.F.plainAttrs_list PySem.F.slot_list_append PySem.F.type_list_append mt_append (pv 8) (pa_cons (xe_callC C_power_rings (hr.mono (by omega)) hgd (by rfl) (xa_val (xe_var (pv 3)) (xa_val (xe_var (pv 4)) (xa_val (xe_var (pv 5)) xa_nil))) (argN_val (argN_val (argN_val argN_nil)))) pa_nil)))) (xss_frz 8 (xss_cons (xs_if (xt_not (xt_val (xe_vb (xe_callC C_law_like (hr.mono (by omega)) hgd (by rfl) (xa_val (xe_var (pv 8)) (xa_val (xe_ov (xe_lst (xl_cons (xe_var (pv 6)) (xl_cons (xe_var (pv 7)) (xl_cons (xe_op o_addA (xe_vb (xe_callC C_law_rings (hr.mono (by omega)) hgd (by rfl) (xa_val (xe_var (pv 3)) (xa_val (xe_var (pv 6)) xa_nil)) (argN_val (argN_val argN_nil)))) (xe_vb (xe_var (pv 7)))) xl_nil))))) xa_nil)) (argN_val (argN_val argN_nil)))))) (xss_one (xs_ret (by decide) xe_bl)) xss_nil) (xss_cons (xs_asg (ps_asg (xe_callC C_law_upon (hr.mono (by omega)) hgd (by rfl) (xa_val (xe_var (pv 3)) (xa_val (xe_var (pv 6)) (xa_val (xe_var (pv 4)) xa_nil))) (argN_val (argN_val (argN_val argN_nil)))) (xg_tup rfl (xgs_cons (xg_name (pg_name (i := 6) nd rfl (Or.inl rfl))) (xgs_cons (xg_name (pg_name (i := 9) nd rfl (Or.inl rfl))) xgs_nil))))) (xss_one (xs_set (i := 7) nd rfl (Or.inl rfl) (xe_op o_addA (xe_vb (xe_var (pv 7))) (xe_vb (xe_var (pv 9)))))))))))) (lenN_cons lenN_nil)) (xss_one (xs_forS (ps_for PassesOwn.never rfl (pi_seq (xe_tup (xl_cons (xe_callC C_law_draw (hr.mono (by omega)) hgd (by rfl) (xa_orc (pv 1) (xa_val (xe_op o_addA (xe_vb (xe_op o_pow (xe_vb xe_int) (xe_vb xe_int))) (xe_vb xe_int)) xa_nil)) (argN_orc (argN_val argN_nil))) (xl_cons (xe_op o_pow (xe_vb xe_int) (xe_vb xe_int)) (xl_cons (xe_callC C_law_draw (hr.mono (by omega)) hgd (by rfl) (xa_orc (pv 1) (xa_val xe_int xa_nil)) (argN_orc (argN_val argN_nil))) xl_nil))))) (xg_name (pg_name (i := 5) nd rfl (Or.inl rfl))) (xss_cons (xs_asg (ps_asg (xe_callC C_law_times (hr.mono (by omega)) hgd (by rfl) (xa_val (xe_var (pv 3)) (xa_val (xe_var (pv 4)) (xa_val (xe_var (pv 5)) xa_nil))) (argN_val (argN_val (argN_val argN_nil)))) (xg_tup rfl (xgs_cons (xg_name (pg_name (i := 10) nd rfl (Or.inl rfl))) (xgs_cons (xg_name (pg_name (i := 7) nd rfl (Or.inl rfl))) xgs_nil))))) (xss_cons (xs_setO (i := 8) nd rfl (Or.inl rfl) (xe_lst (xl_cons (xe_callC C_power (hr.mono (by omega)) hgd (by rfl) (xa_val (xe_var (pv 3)) (xa_val (xe_var (pv 4)) (xa_val (xe_var (pv 5)) xa_nil))) (argN_val (argN_val (argN_val argN_nil)))) (xl_cons (xe_callC C_power_leftovers (hr.mono (by omega)) hgd (by rfl) (xa_val (xe_var (pv 3)) (xa_val (xe_var (pv 4)) (xa_val (xe_var (pv 5)) xa_nil))) (argN_val (argN_val (argN_val argN_nil)))) xl_nil)))) (xss_cons (xs_app (ps_expr (pe_bm PySem.F.plainAttrs_list PySem.F.slot_list_append PySem.F.type_list_append mt_append (pv 8) (pa_cons (xe_callKP P_power_rings_0 (hr.mono (by omega)) hgd (by rfl) (xk_val (xe_var (pv 5)) (xk_val (xe_var (pv 4)) (xk_val (xe_var (pv 3)) xk_nil))) (argN_val (argN_val (argN_val argN_nil))) rfl) pa_nil)))) (xss_frz 8 (xss_one (xs_if (xt_not (xt_val (xe_vb (xe_callC C_law_like (hr.mono (by omega)) hgd (by rfl) (xa_val (xe_var (pv 8)) (xa_val (xe_ov (xe_lst (xl_cons (xe_var (pv 10)) (xl_cons (xe_var (pv 7)) (xl_cons (xe_op o_addA (xe_vb (xe_callC C_law_rings (hr.mono (by omega)) hgd (by rfl) (xa_val (xe_var (pv 3)) (xa_val (xe_var (pv 10)) xa_nil)) (argN_val (argN_val argN_nil)))) (xe_vb (xe_var (pv 7)))) xl_nil))))) xa_nil)) (argN_val (argN_val argN_nil)))))) (xss_one (xs_ret (by decide) xe_bl)) xss_nil))))))))))))))) (lenN_cons lenN_nil)) (xss_one (xs_ret (by decide) xe_bl))))⟩) ok
end
end T27
end
section
set_option linter.all false
/-! Figures: labels of points, glued; how many labels there are. Plain mathematics. -/
namespace FM
section
variable {α β P Q : Type} [DecidableEq α] [DecidableEq β]
/-! ### how many unlike things a list has -/
def dd : List α → List α
  | [] => []
  | x :: xs => if x ∈ xs then dd xs else x :: dd xs
def cnt (l : List α) : Nat := (dd l).length
theorem dd_cons (x : α) (xs : List α) : dd (x :: xs) = if x ∈ xs then dd xs else x :: dd xs := rfl
theorem mem_dd {x : α} : ∀ {l : List α}, x ∈ dd l ↔ x ∈ l
  | [] => Iff.rfl
  | y :: l => by
    unfold dd
    split
    · rename_i h
      rw [mem_dd (l := l), List.mem_cons]
      exact ⟨.inr, fun z => z.elim (fun e => e ▸ h) id⟩
    · rw [List.mem_cons, List.mem_cons, mem_dd (l := l)]
theorem nodup_dd : ∀ l : List α, (dd l).Nodup
  | [] => List.nodup_nil
  | y :: l => by
    unfold dd
    split
    · exact nodup_dd l
    · rename_i h
      exact List.nodup_cons.mpr ⟨fun z => h (mem_dd.mp z), nodup_dd l⟩
theorem len_le : ∀ {a b : List α}, a.Nodup → (∀ v, v ∈ a → v ∈ b) → a.length ≤ b.length
  | [], _, _, _ => Nat.zero_le _
  | x :: a, b, nd, h => by
    have nd' := List.nodup_cons.mp nd
    have hx : x ∈ b := h x List.mem_cons_self
    have q := len_le (a := a) (b := b.erase x) nd'.2 fun v hv => (List.mem_erase_of_ne (fun e => nd'.1 (by rw [← e]; exact hv))).mpr (h v (List.mem_cons_of_mem _ hv))
    rw [List.length_erase_of_mem hx] at q
    have := List.length_pos_of_mem hx
    rw [List.length_cons]
    omega
theorem cnt_congr {a b : List α} (h : ∀ v, v ∈ a ↔ v ∈ b) : cnt a = cnt b :=
  Nat.le_antisymm (len_le (nodup_dd a) fun v hv => mem_dd.mpr ((h v).mp (mem_dd.mp hv))) (len_le (nodup_dd b) fun v hv => mem_dd.mpr ((h v).mpr (mem_dd.mp hv)))
theorem cnt_le {a b : List α} (h : ∀ v, v ∈ a → v ∈ b) : cnt a ≤ cnt b := len_le (nodup_dd a) fun v hv => mem_dd.mpr (h v (mem_dd.mp hv))
/-- two labellings with the same kernel over some points -/
def KE (S : P → Prop) (f : P → α) (g : P → β) : Prop := ∀ x y, S x → S y → (f x = f y ↔ g x = g y)
theorem cnt_ke {f : P → α} {g : P → β} : ∀ {pts : List P}, KE (· ∈ pts) f g → cnt (pts.map f) = cnt (pts.map g)
  | [], _ => rfl
  | p :: pts, h => by
    have ih := cnt_ke (pts := pts) fun x y hx hy => h x y (List.mem_cons_of_mem _ hx) (List.mem_cons_of_mem _ hy)
    have e : f p ∈ pts.map f ↔ g p ∈ pts.map g := by
      rw [List.mem_map, List.mem_map]
      exact ⟨fun ⟨q, hq, z⟩ => ⟨q, hq, (h q p (List.mem_cons_of_mem _ hq) List.mem_cons_self).mp z⟩, fun ⟨q, hq, z⟩ => ⟨q, hq, (h q p (List.mem_cons_of_mem _ hq) List.mem_cons_self).mpr z⟩⟩
    unfold cnt at ih ⊢
    rw [List.map_cons, List.map_cons]
    unfold dd
    by_cases z : f p ∈ pts.map f
    · rw [if_pos z, if_pos (e.mp z)]; exact ih
    · rw [if_neg z, if_neg (fun q => z (e.mpr q)), List.length_cons, List.length_cons, ih]
theorem cnt_app {a b : List α} (h : ∀ v, v ∈ a → v ∈ b → False) : cnt (a ++ b) = cnt a + cnt b := by
  induction a with
  | nil => simp [cnt, dd]
  | cons x a ih =>
    have ih := ih fun v hv => h v (List.mem_cons_of_mem _ hv)
    unfold cnt at ih ⊢
    rw [List.cons_append, dd_cons, dd_cons]
    have hx : x ∉ b := fun z => h x List.mem_cons_self z
    by_cases z : x ∈ a
    · rw [if_pos (List.mem_append_left _ z), if_pos z]; exact ih
    · rw [if_neg (fun q => (List.mem_append.mp q).elim z hx), if_neg z, List.length_cons, List.length_cons, ih]
      omega
theorem cnt_filter {a b : List α} : cnt (a ++ b) = cnt a + cnt (b.filter fun v => decide (v ∉ a)) := by
  rw [← cnt_app fun v h1 h2 => by
    rw [List.mem_filter] at h2
    exact (of_decide_eq_true h2.2) h1]
  refine cnt_congr fun v => ?_
  rw [List.mem_append, List.mem_append, List.mem_filter]
  by_cases z : v ∈ a
  · simp [z]
  · simp [z]
theorem cnt_merge {l : List α} {a b : α} (ne : a ≠ b) (ha : a ∈ l) (hb : b ∈ l) : cnt (l.map fun v => if v = b then a else v) + 1 = cnt l := by
  have e : cnt (l.map fun v => if v = b then a else v) = ((dd l).erase b).length := by
    unfold cnt
    refine Nat.le_antisymm (len_le (nodup_dd _) fun v hv => ?_) (len_le ((nodup_dd l).erase b) fun v hv => ?_)
    · obtain ⟨w, hw, rfl⟩ := List.mem_map.mp (mem_dd.mp hv)
      by_cases z : w = b
      · rw [if_pos z]; exact (List.mem_erase_of_ne ne).mpr (mem_dd.mpr ha)
      · rw [if_neg z]; exact (List.mem_erase_of_ne z).mpr (mem_dd.mpr hw)
    · have nb : v ≠ b := fun z => by
        subst z
        exact absurd hv (List.Nodup.not_mem_erase (nodup_dd l))
      exact mem_dd.mpr (List.mem_map.mpr ⟨v, mem_dd.mp (List.mem_of_mem_erase hv), if_neg nb⟩)
  rw [e, List.length_erase_of_mem (mem_dd.mpr hb)]
  have := List.length_pos_of_mem (mem_dd.mpr hb)
  unfold cnt
  omega
/-! ### labels glued -/
def mrg (f : P → α) (p q : P) : P → α := fun x => if f x = f q then f p else f x
def glue (f : P → α) (ps : List (P × P)) : P → α := ps.foldl (fun f r => mrg f r.1 r.2) f
theorem glue_cons (f : P → α) (r : P × P) (ps : List (P × P)) : glue f (r :: ps) = glue (mrg f r.1 r.2) ps := rfl
theorem glue_app (f : P → α) (ps qs : List (P × P)) : glue f (ps ++ qs) = glue (glue f ps) qs := List.foldl_append ..
inductive EG (f : P → α) (ps : List (P × P)) : P → P → Prop
  | ker {x y : P} : f x = f y → EG f ps x y
  | pr {x y : P} : (x, y) ∈ ps → EG f ps x y
  | sym {x y : P} : EG f ps x y → EG f ps y x
  | tr {x y z : P} : EG f ps x y → EG f ps y z → EG f ps x z
theorem mrg_ker {f : P → α} {p q x y : P} (h : f x = f y) : mrg f p q x = mrg f p q y := by
  unfold mrg
  rw [h]
theorem mrg_pq (f : P → α) (p q : P) : mrg f p q p = mrg f p q q := by
  unfold mrg
  rw [if_pos (rfl : f q = f q)]
  split <;> rfl
theorem glue_ker {x y : P} : ∀ {ps : List (P × P)} {f : P → α}, f x = f y → glue f ps x = glue f ps y
  | [], _, h => h
  | r :: ps, f, h => glue_ker (ps := ps) (mrg_ker h)
theorem glue_pr {x y : P} : ∀ {ps : List (P × P)} {f : P → α}, (x, y) ∈ ps → glue f ps x = glue f ps y
  | r :: ps, f, h => by
    rcases List.mem_cons.mp h with e | h
    · subst e
      exact glue_ker (ps := ps) (f := mrg f x y) (mrg_pq f x y)
    · exact glue_pr (ps := ps) h
theorem EG.glue {f : P → α} {ps : List (P × P)} {x y : P} (h : EG f ps x y) : glue f ps x = glue f ps y := by
  induction h with
  | ker h => exact glue_ker h
  | pr h => exact glue_pr h
  | sym _ ih => exact ih.symm
  | tr _ _ i1 i2 => exact i1.trans i2
theorem EG.of_mrg {f : P → α} {p q : P} {ps : List (P × P)} {x y : P} (h : EG (mrg f p q) ps x y) : EG f ((p, q) :: ps) x y := by
  induction h with
  | @ker x y h =>
    have pq : EG f ((p, q) :: ps) p q := .pr List.mem_cons_self
    unfold mrg at h
    split at h
    · rename_i hx
      split at h
      · rename_i hy
        exact .ker (hx.trans hy.symm)
      · exact .tr (.ker hx) (.tr (.sym pq) (.ker h))
    · split at h
      · rename_i hy
        exact .tr (.ker h) (.tr pq (.ker hy.symm))
      · exact .ker h
  | pr h => exact .pr (List.mem_cons_of_mem _ h)
  | sym _ ih => exact .sym ih
  | tr _ _ i1 i2 => exact .tr i1 i2
theorem EG.of_glue {x y : P} : ∀ {ps : List (P × P)} {f : P → α}, FM.glue f ps x = FM.glue f ps y → EG f ps x y
  | [], _, h => .ker h
  | (p, q) :: ps, f, h => EG.of_mrg (EG.of_glue (ps := ps) h)
theorem glue_iff {f : P → α} {ps : List (P × P)} {x y : P} : glue f ps x = glue f ps y ↔ EG f ps x y := ⟨EG.of_glue, EG.glue⟩
/-- the universal property -/
theorem EG.to {f : P → α} {ps : List (P × P)} {g : P → β} (hk : ∀ x y, f x = f y → g x = g y) (hp : ∀ x y, (x, y) ∈ ps → g x = g y) {x y : P} (h : EG f ps x y) : g x = g y := by
  induction h with
  | ker h => exact hk _ _ h
  | pr h => exact hp _ _ h
  | sym _ ih => exact ih.symm
  | tr _ _ i1 i2 => exact i1.trans i2
theorem EG.map {f : P → α} {ps : List (P × P)} {g : Q → β} {qs : List (Q × Q)} (e : P → Q) (hk : ∀ x y, f x = f y → EG g qs (e x) (e y)) (hp : ∀ x y, (x, y) ∈ ps → EG g qs (e x) (e y)) {x y : P} (h : EG f ps x y) : EG g qs (e x) (e y) := by
  induction h with
  | ker h => exact hk _ _ h
  | pr h => exact hp _ _ h
  | sym _ ih => exact .sym ih
  | tr _ _ i1 i2 => exact .tr i1 i2
theorem mrg_ke {S : P → Prop} {f : P → α} {g : P → β} (h : KE S f g) {p q : P} (hp : S p) (hq : S q) : KE S (mrg f p q) (mrg g p q) := fun x y hx hy => by
  have a := h x q hx hq
  have b := h y q hy hq
  have c := h x y hx hy
  have d := h p y hp hy
  have e := h x p hx hp
  unfold mrg
  by_cases z1 : f x = f q
  · rw [if_pos z1, if_pos (a.mp z1)]
    by_cases z2 : f y = f q
    · rw [if_pos z2, if_pos (b.mp z2)]
      exact ⟨fun _ => rfl, fun _ => rfl⟩
    · rw [if_neg z2, if_neg (fun z => z2 (b.mpr z))]
      exact d
  · rw [if_neg z1, if_neg (fun z => z1 (a.mpr z))]
    by_cases z2 : f y = f q
    · rw [if_pos z2, if_pos (b.mp z2)]
      exact e
    · rw [if_neg z2, if_neg (fun z => z2 (b.mpr z))]
      exact c
theorem glue_ke {S : P → Prop} : ∀ {ps : List (P × P)} {f : P → α} {g : P → β}, KE S f g → (∀ r ∈ ps, S r.1 ∧ S r.2) → KE S (glue f ps) (glue g ps)
  | [], _, _, h, _ => h
  | r :: ps, _, _, h, hs => glue_ke (ps := ps) (mrg_ke h (hs r List.mem_cons_self).1 (hs r List.mem_cons_self).2) fun r hr => hs r (List.mem_cons_of_mem _ hr)
theorem mrg_eqOn {S : P → Prop} {f g : P → α} (h : ∀ x, S x → f x = g x) {p q : P} (hp : S p) (hq : S q) : ∀ x, S x → mrg f p q x = mrg g p q x := fun x hx => by
  unfold mrg
  rw [h x hx, h q hq, h p hp]
theorem glue_eqOn {S : P → Prop} : ∀ {ps : List (P × P)} {f g : P → α}, (∀ x, S x → f x = g x) → (∀ r ∈ ps, S r.1 ∧ S r.2) → ∀ x, S x → glue f ps x = glue g ps x
  | [], _, _, h, _ => h
  | r :: ps, _, _, h, hs => glue_eqOn (ps := ps) (mrg_eqOn h (hs r List.mem_cons_self).1 (hs r List.mem_cons_self).2) fun r hr => hs r (List.mem_cons_of_mem _ hr)
theorem glue_comp (e : Q → P) : ∀ (ps : List (Q × Q)) (f : P → α), glue (fun x => f (e x)) ps = fun x => glue f (ps.map fun r => (e r.1, e r.2)) (e x)
  | [], _ => rfl
  | r :: ps, f => glue_comp e ps (mrg f (e r.1) (e r.2))
theorem cnt_mrg {pts : List P} {f : P → α} {p q : P} (hp : p ∈ pts) (hq : q ∈ pts) : cnt (pts.map (mrg f p q)) + (if f p = f q then 0 else 1) = cnt (pts.map f) := by
  by_cases z : f p = f q
  · rw [if_pos z]
    have e : mrg f p q = f := by
      funext x
      unfold mrg
      split
      · rename_i h; exact z.trans h.symm
      · rfl
    rw [e, Nat.add_zero]
  · rw [if_neg z]
    have e : pts.map (mrg f p q) = (pts.map f).map fun v => if v = f q then f p else v := by
      rw [List.map_map]
      rfl
    rw [e]
    exact cnt_merge z (List.mem_map_of_mem hp) (List.mem_map_of_mem hq)
theorem cnt_glue {pts qs : List P} (hq : ∀ x, x ∈ qs → x ∈ pts) : ∀ {ps : List (P × P)} {f : P → α}, (∀ r ∈ ps, r.1 ∈ qs ∧ r.2 ∈ qs) → cnt (pts.map (glue f ps)) + cnt (qs.map f) = cnt (pts.map f) + cnt (qs.map (glue f ps))
  | [], _, _ => rfl
  | r :: ps, f, h => by
    have ih := cnt_glue hq (ps := ps) (f := mrg f r.1 r.2) fun r hr => h r (List.mem_cons_of_mem _ hr)
    obtain ⟨h1, h2⟩ := h r List.mem_cons_self
    have c1 := cnt_mrg (f := f) h1 h2
    have c2 := cnt_mrg (f := f) (hq _ h1) (hq _ h2)
    rw [glue_cons]
    omega
/-- some points put together: what is glued further on, seen from the points that stay -/
theorem contract {f : P → α} {g : Q → β} {inner : List (P × P)} {ps : List (Q × Q)} {all : List P} {pts : List Q} (e : Q → P) (hk : KE (· ∈ pts) g fun x => glue f inner (e x)) (hps : ∀ r ∈ ps, r.1 ∈ pts ∧ r.2 ∈ pts) (ha : ∀ x, x ∈ pts → e x ∈ all) :
    KE (· ∈ pts) (glue g ps) (fun x => glue f (inner ++ ps.map fun r => (e r.1, e r.2)) (e x)) ∧
    cnt (all.map (glue f (inner ++ ps.map fun r => (e r.1, e r.2)))) + cnt (pts.map g) = cnt (all.map (glue f inner)) + cnt (pts.map (glue g ps)) := by
  have k1 : KE (· ∈ pts) (glue g ps) (fun x => glue f (inner ++ ps.map fun r => (e r.1, e r.2)) (e x)) := by
    have q := glue_ke hk hps
    rw [glue_comp e ps (glue f inner)] at q
    rw [glue_app]
    exact q
  refine ⟨k1, ?_⟩
  have c := cnt_glue (pts := all) (qs := pts.map e) (f := glue f inner) (ps := ps.map fun r => (e r.1, e r.2)) (fun x hx => by
    obtain ⟨y, hy, rfl⟩ := List.mem_map.mp hx
    exact ha y hy) fun r hr => by
    obtain ⟨z, hz, rfl⟩ := List.mem_map.mp hr
    exact ⟨List.mem_map_of_mem (hps z hz).1, List.mem_map_of_mem (hps z hz).2⟩
  rw [← glue_app] at c
  have e1 : cnt ((pts.map e).map (glue f inner)) = cnt (pts.map g) := by
    rw [List.map_map]
    exact (cnt_ke hk).symm
  have e2 : cnt ((pts.map e).map (glue f (inner ++ ps.map fun r => (e r.1, e r.2)))) = cnt (pts.map (glue g ps)) := by
    rw [List.map_map]
    exact (cnt_ke k1).symm
  rw [e1, e2] at c
  exact c
end
end FM
end
section
set_option linter.all false
/-! Figures of c cords: one upon another one, what is left over, rings. -/
namespace FM
section
variable {c : Nat}
/-- points of some figures: which one, bottom or top, the place -/
abbrev Pt (c : Nat) := Nat × Bool × Fin c
abbrev P1 (c : Nat) := Bool × Fin c
abbrev Fg (c : Nat) := P1 c → Nat
def lab (F : Nat → Fg c) : Pt c → Nat × Nat := fun x => (x.1, F x.1 x.2)
def prs (c j k : Nat) : List (Pt c × Pt c) := (List.finRange c).map fun i => ((j, true, i), (k, false, i))
def side (c : Nat) (s : Bool) : List (P1 c) := (List.finRange c).map fun i => (s, i)
def pts1 (c : Nat) : List (P1 c) := side c false ++ side c true
def blk (j : Nat) : List (Pt c) := (pts1 c).map fun x => (j, x)
theorem mem_pts1 (x : P1 c) : x ∈ pts1 c := by
  obtain ⟨s, i⟩ := x
  unfold pts1 side
  cases s
  · exact List.mem_append_left _ (List.mem_map.mpr ⟨i, List.mem_finRange i, rfl⟩)
  · exact List.mem_append_right _ (List.mem_map.mpr ⟨i, List.mem_finRange i, rfl⟩)
theorem mem_blk {j : Nat} {x : Pt c} : x ∈ blk j ↔ x.1 = j := by
  unfold blk
  rw [List.mem_map]
  exact ⟨fun ⟨y, _, e⟩ => by rw [← e], fun e => ⟨x.2, mem_pts1 _, by rw [← e]⟩⟩
theorem mem_prs {j k : Nat} {r : Pt c × Pt c} : r ∈ prs c j k ↔ ∃ i, r = ((j, true, i), (k, false, i)) := by
  unfold prs
  rw [List.mem_map]
  exact ⟨fun ⟨i, _, e⟩ => ⟨i, e.symm⟩, fun ⟨i, e⟩ => ⟨i, List.mem_finRange i, e.symm⟩⟩
def two (A B : Fg c) : Nat → Fg c := fun j => if j = 0 then A else B
def two_ (A B : Fg c) : List (Pt c) := blk 0 ++ blk 1
def pts2 (c : Nat) : List (Pt c) := blk 0 ++ blk 1
def pts3 (c : Nat) : List (Pt c) := pts2 c ++ blk 2
theorem mem_pts2 {x : Pt c} : x ∈ pts2 c ↔ x.1 = 0 ∨ x.1 = 1 := by
  unfold pts2
  rw [List.mem_append, mem_blk, mem_blk]
theorem mem_pts3 {x : Pt c} : x ∈ pts3 c ↔ x.1 = 0 ∨ x.1 = 1 ∨ x.1 = 2 := by
  unfold pts3
  rw [List.mem_append, mem_pts2, mem_blk, or_assoc]
def T2 (A B : Fg c) : Pt c → Nat × Nat := glue (lab (two A B)) (prs c 0 1)
/-- the points that stay -/
def out (x : P1 c) : Pt c := (if x.1 = true then 1 else 0, x)
def UP (A B : Fg c) : P1 c → Nat × Nat := fun x => T2 A B (out x)
def AL (A B : Fg c) : Nat := cnt ((pts2 c).map (T2 A B))
def nP (A : Fg c) : Nat := cnt ((pts1 c).map A)
def nU (A B : Fg c) : Nat := cnt ((pts1 c).map (UP A B))
def LEFT (A B : Fg c) : Nat := AL A B - nU A B
def KF {α β : Type} (A : P1 c → α) (B : P1 c → β) : Prop := ∀ x y, A x = A y ↔ B x = B y
theorem KF.symm {α β : Type} {A : P1 c → α} {B : P1 c → β} (h : KF A B) : KF B A := fun x y => (h x y).symm
theorem KF.trans {α β γ : Type} {A : P1 c → α} {B : P1 c → β} {C : P1 c → γ} (h : KF A B) (k : KF B C) : KF A C := fun x y => (h x y).trans (k x y)
theorem KF.refl {α : Type} (A : P1 c → α) : KF A A := fun _ _ => Iff.rfl
theorem KF.cnt {α β : Type} [DecidableEq α] [DecidableEq β] {A : P1 c → α} {B : P1 c → β} (h : KF A B) : FM.cnt ((pts1 c).map A) = FM.cnt ((pts1 c).map B) := cnt_ke fun x y _ _ => h x y
theorem out_in (x : P1 c) : out x ∈ pts2 c := by
  rw [mem_pts2]
  unfold out
  cases x.1 <;> simp
theorem nU_le (A B : Fg c) : nU A B ≤ AL A B := cnt_le fun v hv => by
  obtain ⟨x, _, rfl⟩ := List.mem_map.mp hv
  exact List.mem_map.mpr ⟨out x, out_in x, rfl⟩
theorem LEFT_add (A B : Fg c) : LEFT A B + nU A B = AL A B := Nat.sub_add_cancel (nU_le A B)
theorem lab_two_ke {α β : Type} {A A' B B' : Fg c} (hA : KF A A') (hB : KF B B') : KE (· ∈ pts2 c) (lab (two A B)) (lab (two A' B')) := fun x y hx hy => by
  obtain ⟨j, x⟩ := x
  obtain ⟨k, y⟩ := y
  have hx := mem_pts2.mp hx
  have hy := mem_pts2.mp hy
  unfold lab two
  simp only at hx hy
  rcases hx with rfl | rfl <;> rcases hy with rfl | rfl <;> simp [hA x y, hB x y]
theorem prs_in2 {j k : Nat} (hj : j = 0 ∨ j = 1) (hk : k = 0 ∨ k = 1) : ∀ r ∈ prs c j k, r.1 ∈ pts2 c ∧ r.2 ∈ pts2 c := fun r hr => by
  obtain ⟨i, rfl⟩ := mem_prs.mp hr
  exact ⟨mem_pts2.mpr hj, mem_pts2.mpr hk⟩
theorem T2_ke {A A' B B' : Fg c} (hA : KF A A') (hB : KF B B') : KE (· ∈ pts2 c) (T2 A B) (T2 A' B') := glue_ke (lab_two_ke (α := Nat) (β := Nat) hA hB) (prs_in2 (.inl rfl) (.inr rfl))
theorem UP_ke {A A' B B' : Fg c} (hA : KF A A') (hB : KF B B') : KF (UP A B) (UP A' B') := fun x y => T2_ke hA hB _ _ (out_in x) (out_in y)
theorem AL_ke {A A' B B' : Fg c} (hA : KF A A') (hB : KF B B') : AL A B = AL A' B' := cnt_ke (T2_ke hA hB)
theorem LEFT_ke {A A' B B' : Fg c} (hA : KF A A') (hB : KF B B') : LEFT A B = LEFT A' B' := by
  unfold LEFT
  rw [AL_ke hA hB, show nU A B = nU A' B' from (UP_ke hA hB).cnt]
theorem cnt_lab (F : Nat → Fg c) : cnt ((pts2 c).map (lab F)) = nP (F 0) + nP (F 1) := by
  unfold pts2
  rw [List.map_append, cnt_app fun v h1 h2 => by
    obtain ⟨x, hx, rfl⟩ := List.mem_map.mp h1
    obtain ⟨y, hy, e⟩ := List.mem_map.mp h2
    have e1 := mem_blk.mp hx
    have e2 := mem_blk.mp hy
    have e3 : (lab F y).1 = (lab F x).1 := congrArg Prod.fst e
    have e4 : y.1 = x.1 := e3
    omega]
  have one : ∀ j, cnt ((blk j : List (Pt c)).map (lab F)) = nP (F j) := fun j => by
    unfold blk nP
    rw [List.map_map]
    refine cnt_ke fun x y _ _ => ?_
    show ((j, F j x) : Nat × Nat) = (j, F j y) ↔ _
    simp
  rw [one, one]
/-! ### three of them -/
def three (A B C : Fg c) : Nat → Fg c := fun j => if j = 0 then A else if j = 1 then B else C
/-- what is glued elsewhere leaves the figure j alone -/
theorem apart {F : Nat → Fg c} {j : Nat} : ∀ {ps : List (Pt c × Pt c)} {f : Pt c → Nat × Nat}, (∀ x, x.1 = j → f x = lab F x) → (∀ x, x.1 ≠ j → (f x).1 ≠ j) → (∀ r ∈ ps, r.1.1 ≠ j ∧ r.2.1 ≠ j) → (∀ x, x.1 = j → glue f ps x = lab F x) ∧ ∀ x, x.1 ≠ j → (glue f ps x).1 ≠ j
  | [], _, h1, h2, _ => ⟨h1, h2⟩
  | r :: ps, f, h1, h2, h3 => by
    obtain ⟨r1, r2⟩ := h3 r List.mem_cons_self
    refine apart (ps := ps) (f := mrg f r.1 r.2) (fun x hx => ?_) (fun x hx => ?_) fun r hr => h3 r (List.mem_cons_of_mem _ hr)
    · have e := h1 x hx
      unfold mrg
      rw [if_neg, e]
      intro z
      have := h2 r.2 r2
      rw [← z, e] at this
      exact this hx
    · unfold mrg
      split
      · exact h2 r.1 r1
      · exact h2 x hx
theorem lab_fst (F : Nat → Fg c) {j : Nat} : ∀ x : Pt c, x.1 ≠ j → (lab F x).1 ≠ j := fun _ h => h
def T3 (A B C : Fg c) (ps : List (Pt c × Pt c)) : Pt c → Nat × Nat := glue (lab (three A B C)) ps
/-- the points of three that stay -/
def out3 (x : P1 c) : Pt c := (if x.1 = true then 2 else 0, x)
/-- seen from the left: A and B first -/
def eL (x : Pt c) : Pt c := if x.1 = 0 then out x.2 else (2, x.2)
/-- seen from the right: B and C first -/
def eR (x : Pt c) : Pt c := if x.1 = 0 then x else (if x.2.1 = true then 2 else 1, x.2)
theorem prs_eL : (prs c 0 1).map (fun r => (eL r.1, eL r.2)) = prs c 1 2 := by
  unfold prs
  rw [List.map_map]
  rfl
theorem prs_eR : (prs c 0 1).map (fun r => (eR r.1, eR r.2)) = prs c 0 1 := by
  unfold prs
  rw [List.map_map]
  rfl
theorem out_eL (x : P1 c) : eL (out x) = out3 x := by
  obtain ⟨s, i⟩ := x
  cases s <;> rfl
theorem out_eR (x : P1 c) : eR (out x) = out3 x := by
  obtain ⟨s, i⟩ := x
  cases s <;> rfl
theorem cnt_pts3 {f : Pt c → Nat × Nat} {F : Nat → Fg c} (h1 : ∀ x, x.1 = 2 → f x = lab F x) (h2 : ∀ x, x.1 ≠ 2 → (f x).1 ≠ 2) : cnt ((pts3 c).map f) = cnt ((pts2 c).map f) + nP (F 2) := by
  unfold pts3
  rw [List.map_append, cnt_app fun v h3 h4 => by
    obtain ⟨x, hx, rfl⟩ := List.mem_map.mp h3
    obtain ⟨y, hy, e⟩ := List.mem_map.mp h4
    have e1 := mem_pts2.mp hx
    have e2 := mem_blk.mp hy
    have e3 := h2 x (by omega)
    rw [← e, h1 y e2] at e3
    exact e3 e2]
  congr 1
  unfold blk nP
  rw [List.map_map]
  refine cnt_ke fun x y _ _ => ?_
  show f (2, x) = f (2, y) ↔ _
  rw [h1 _ rfl, h1 _ rfl]
  show ((2, F 2 x) : Nat × Nat) = (2, F 2 y) ↔ _
  simp
theorem left3 {A B C AB : Fg c} (h : KF AB (UP A B)) : KF (UP AB C) (fun x => T3 A B C (prs c 0 1 ++ prs c 1 2) (out3 x)) ∧
    cnt ((pts3 c).map (T3 A B C (prs c 0 1 ++ prs c 1 2))) + nP AB = AL A B + AL AB C := by
  have ap := apart (F := three A B C) (j := 2) (ps := prs c 0 1) (f := lab (three A B C)) (fun _ _ => rfl) (lab_fst _) fun r hr => by
    obtain ⟨i, rfl⟩ := mem_prs.mp hr
    exact ⟨show (0 : Nat) ≠ 2 by decide, show (1 : Nat) ≠ 2 by decide⟩
  have eqOn : ∀ x : Pt c, x ∈ pts2 c → glue (lab (three A B C)) (prs c 0 1) x = T2 A B x := glue_eqOn (S := (· ∈ pts2 c)) (fun x hx => by
    rcases mem_pts2.mp hx with e | e
    · unfold lab three two; rw [e]; rfl
    · unfold lab three two; rw [e]; rfl) (prs_in2 (.inl rfl) (.inr rfl))
  have hk : KE (· ∈ pts2 c) (lab (two AB C)) fun x => glue (lab (three A B C)) (prs c 0 1) (eL x) := fun x y hx hy => by
    obtain ⟨j, x⟩ := x
    obtain ⟨k, y⟩ := y
    have hx := mem_pts2.mp hx
    have hy := mem_pts2.mp hy
    simp only at hx hy
    have z0 : ∀ z : P1 c, eL (0, z) = out z := fun _ => rfl
    have z1 : ∀ z : P1 c, eL (1, z) = (2, z) := fun _ => rfl
    have n0 : ∀ z : P1 c, (out z).1 ≠ 2 := fun z => by
      have := mem_pts2.mp (out_in z)
      omega
    rcases hx with rfl | rfl <;> rcases hy with rfl | rfl
    · show ((0, AB x) : Nat × Nat) = (0, AB y) ↔ glue _ _ (eL (0, x)) = glue _ _ (eL (0, y))
      rw [z0, z0, eqOn _ (out_in x), eqOn _ (out_in y)]
      refine Iff.trans ?_ (h x y)
      simp
    · show ((0, AB x) : Nat × Nat) = (1, C y) ↔ glue _ _ (eL (0, x)) = glue _ _ (eL (1, y))
      rw [z0, z1, ap.1 (2, y) rfl]
      refine ⟨fun e => (by cases e), fun e => ?_⟩
      have := ap.2 (out x) (n0 x)
      rw [e] at this
      exact absurd rfl this
    · show ((1, C x) : Nat × Nat) = (0, AB y) ↔ glue _ _ (eL (1, x)) = glue _ _ (eL (0, y))
      rw [z0, z1, ap.1 (2, x) rfl]
      refine ⟨fun e => (by cases e), fun e => ?_⟩
      have := ap.2 (out y) (n0 y)
      rw [← e] at this
      exact absurd rfl this
    · show ((1, C x) : Nat × Nat) = (1, C y) ↔ glue _ _ (eL (1, x)) = glue _ _ (eL (1, y))
      rw [z1, z1, ap.1 (2, x) rfl, ap.1 (2, y) rfl]
      show _ ↔ ((2, C x) : Nat × Nat) = (2, C y)
      simp
  have q := contract (all := pts3 c) (ps := prs c 0 1) eL hk (prs_in2 (.inl rfl) (.inr rfl)) fun x hx => by
    obtain ⟨j, x⟩ := x
    rcases mem_pts2.mp hx with e | e <;> simp only at e <;> subst e
    · exact List.mem_append_left _ (out_in x)
    · exact mem_pts3.mpr (.inr (.inr rfl))
  rw [prs_eL] at q
  refine ⟨fun x y => ?_, ?_⟩
  · have k := q.1 _ _ (out_in x) (out_in y)
    dsimp only at k
    rw [out_eL, out_eL] at k
    exact k
  · have k := q.2
    rw [cnt_lab, cnt_pts3 ap.1 ap.2] at k
    have e1 : cnt ((pts2 c).map (glue (lab (three A B C)) (prs c 0 1))) = AL A B := by
      unfold AL
      rw [List.map_congr_left eqOn]
    rw [e1] at k
    have e2 : nP (two AB C 0) = nP AB := rfl
    have e3 : nP (two AB C 1) = nP C := rfl
    have e4 : nP (three A B C 2) = nP C := rfl
    rw [e2, e3, e4] at k
    have e5 : cnt ((pts2 c).map (glue (lab (two AB C)) (prs c 0 1))) = AL AB C := rfl
    rw [e5] at k
    unfold T3
    omega
end
end FM
end
section
set_option linter.all false
/-! Three figures from both sides; a row's ring; straight. -/
namespace FM
section
variable {c : Nat}
theorem cnt_pts3' {f : Pt c → Nat × Nat} {F : Nat → Fg c} (h1 : ∀ x, x.1 = 0 → f x = lab F x) (h2 : ∀ x, x.1 ≠ 0 → (f x).1 ≠ 0) : cnt ((pts3 c).map f) = nP (F 0) + cnt ((blk 1 ++ blk 2 : List (Pt c)).map f) := by
  unfold pts3 pts2
  rw [List.append_assoc, List.map_append, cnt_app fun v h3 h4 => by
    obtain ⟨x, hx, rfl⟩ := List.mem_map.mp h3
    obtain ⟨y, hy, e⟩ := List.mem_map.mp h4
    have e1 := mem_blk.mp hx
    have hy := List.mem_append.mp hy
    have e2 : y.1 ≠ 0 := by
      rcases hy with hy | hy
      · have := mem_blk.mp hy; omega
      · have := mem_blk.mp hy; omega
    have e3 := h2 y e2
    rw [e, h1 x e1] at e3
    exact e3 e1]
  congr 1
  unfold blk nP
  rw [List.map_map]
  refine cnt_ke fun x y _ _ => ?_
  show f (0, x) = f (0, y) ↔ _
  rw [h1 _ rfl, h1 _ rfl]
  show ((0, F 0 x) : Nat × Nat) = (0, F 0 y) ↔ _
  simp
/-- one figure further -/
def up1 (x : Pt c) : Pt c := (x.1 + 1, x.2)
theorem right3 {A B C BC : Fg c} (h : KF BC (UP B C)) : KF (UP A BC) (fun x => T3 A B C (prs c 1 2 ++ prs c 0 1) (out3 x)) ∧
    cnt ((pts3 c).map (T3 A B C (prs c 1 2 ++ prs c 0 1))) + nP BC = AL B C + AL A BC := by
  have ap := apart (F := three A B C) (j := 0) (ps := prs c 1 2) (f := lab (three A B C)) (fun _ _ => rfl) (lab_fst _) fun r hr => by
    obtain ⟨i, rfl⟩ := mem_prs.mp hr
    exact ⟨show (1 : Nat) ≠ 0 by decide, show (2 : Nat) ≠ 0 by decide⟩
  have e12 : prs c 1 2 = (prs c 0 1).map fun r => (up1 r.1, up1 r.2) := by
    unfold prs
    rw [List.map_map]
    rfl
  have keB : KE (· ∈ pts2 c) (T2 B C) (fun x => glue (lab (three A B C)) (prs c 1 2) (up1 x)) := by
    rw [e12]
    have q := glue_comp up1 (prs c 0 1) (lab (three A B C))
    have q2 : (fun x => glue (lab (three A B C)) ((prs c 0 1).map fun r => (up1 r.1, up1 r.2)) (up1 x)) = glue (fun x => lab (three A B C) (up1 x)) (prs c 0 1) := q.symm
    rw [q2]
    refine glue_ke (fun x y hx hy => ?_) (prs_in2 (.inl rfl) (.inr rfl))
    obtain ⟨j, x⟩ := x
    obtain ⟨k, y⟩ := y
    have hx := mem_pts2.mp hx
    have hy := mem_pts2.mp hy
    unfold lab two three up1
    simp only at hx hy
    rcases hx with rfl | rfl <;> rcases hy with rfl | rfl <;> simp
  have hk : KE (· ∈ pts2 c) (lab (two A BC)) fun x => glue (lab (three A B C)) (prs c 1 2) (eR x) := fun x y hx hy => by
    obtain ⟨j, x⟩ := x
    obtain ⟨k, y⟩ := y
    have hx := mem_pts2.mp hx
    have hy := mem_pts2.mp hy
    simp only at hx hy
    have z0 : ∀ z : P1 c, eR (0, z) = (0, z) := fun _ => rfl
    have z1 : ∀ z : P1 c, eR (1, z) = up1 (out z) := fun z => by
      obtain ⟨s, i⟩ := z
      cases s <;> rfl
    have n0 : ∀ z : P1 c, (up1 (out z)).1 ≠ 0 := fun z => Nat.succ_ne_zero _
    rcases hx with rfl | rfl <;> rcases hy with rfl | rfl
    · show ((0, A x) : Nat × Nat) = (0, A y) ↔ glue _ _ (eR (0, x)) = glue _ _ (eR (0, y))
      rw [z0, z0, ap.1 (0, x) rfl, ap.1 (0, y) rfl]
      show _ ↔ ((0, A x) : Nat × Nat) = (0, A y)
      simp
    · show ((0, A x) : Nat × Nat) = (1, BC y) ↔ glue _ _ (eR (0, x)) = glue _ _ (eR (1, y))
      rw [z0, z1, ap.1 (0, x) rfl]
      refine ⟨fun e => (by cases e), fun e => ?_⟩
      have := ap.2 _ (n0 y)
      rw [← e] at this
      exact absurd rfl this
    · show ((1, BC x) : Nat × Nat) = (0, A y) ↔ glue _ _ (eR (1, x)) = glue _ _ (eR (0, y))
      rw [z0, z1, ap.1 (0, y) rfl]
      refine ⟨fun e => (by cases e), fun e => ?_⟩
      have := ap.2 _ (n0 x)
      rw [e] at this
      exact absurd rfl this
    · show ((1, BC x) : Nat × Nat) = (1, BC y) ↔ glue _ _ (eR (1, x)) = glue _ _ (eR (1, y))
      rw [z1, z1]
      refine Iff.trans ?_ (keB _ _ (out_in x) (out_in y))
      refine Iff.trans ?_ (h x y)
      simp
  have q := contract (all := pts3 c) (ps := prs c 0 1) eR hk (prs_in2 (.inl rfl) (.inr rfl)) fun x hx => by
    obtain ⟨j, x⟩ := x
    rcases mem_pts2.mp hx with e | e <;> simp only at e <;> subst e
    · exact mem_pts3.mpr (.inl rfl)
    · obtain ⟨s, i⟩ := x
      cases s
      · exact mem_pts3.mpr (.inr (.inl rfl))
      · exact mem_pts3.mpr (.inr (.inr rfl))
  rw [prs_eR] at q
  refine ⟨fun x y => ?_, ?_⟩
  · have k := q.1 _ _ (out_in x) (out_in y)
    dsimp only at k
    rw [out_eR, out_eR] at k
    exact k
  · have k := q.2
    rw [cnt_lab, cnt_pts3' ap.1 ap.2] at k
    have e1 : cnt ((blk 1 ++ blk 2 : List (Pt c)).map (glue (lab (three A B C)) (prs c 1 2))) = AL B C := by
      unfold AL
      rw [cnt_ke keB]
      congr 1
      have e : (blk 1 ++ blk 2 : List (Pt c)) = (pts2 c).map up1 := by
        unfold pts2 blk
        rw [List.map_append, List.map_map, List.map_map]
        rfl
      rw [e, List.map_map]
      rfl
    rw [e1] at k
    have e2 : nP (two A BC 0) = nP A := rfl
    have e3 : nP (two A BC 1) = nP BC := rfl
    have e4 : nP (three A B C 0) = nP A := rfl
    rw [e2, e3, e4] at k
    have e5 : cnt ((pts2 c).map (glue (lab (two A BC)) (prs c 0 1))) = AL A BC := rfl
    rw [e5] at k
    unfold T3
    omega
theorem T3_ke (A B C : Fg c) (x y : Pt c) : T3 A B C (prs c 0 1 ++ prs c 1 2) x = T3 A B C (prs c 0 1 ++ prs c 1 2) y ↔ T3 A B C (prs c 1 2 ++ prs c 0 1) x = T3 A B C (prs c 1 2 ++ prs c 0 1) y := by
  unfold T3
  rw [glue_iff, glue_iff]
  have sw : ∀ {ps qs : List (Pt c × Pt c)} {x y : Pt c}, EG (lab (three A B C)) (ps ++ qs) x y → EG (lab (three A B C)) (qs ++ ps) x y := fun {ps qs x y} h =>
    h.map id (fun x y h => .ker h) fun x y h => .pr (by
      rcases List.mem_append.mp h with h | h
      · exact List.mem_append_right _ h
      · exact List.mem_append_left _ h)
  exact ⟨sw, sw⟩
/-- (A upon B) upon C is A upon (B upon C), with as much left over -/
theorem assoc {A B C AB BC : Fg c} (h1 : KF AB (UP A B)) (h2 : KF BC (UP B C)) : KF (UP AB C) (UP A BC) ∧ LEFT A B + LEFT AB C = LEFT B C + LEFT A BC := by
  obtain ⟨l1, l2⟩ := left3 (C := C) h1
  obtain ⟨r1, r2⟩ := right3 (A := A) h2
  have k : KF (UP AB C) (UP A BC) := fun x y => (l1 x y).trans ((T3_ke A B C _ _).trans (r1 x y).symm)
  refine ⟨k, ?_⟩
  have e : cnt ((pts3 c).map (T3 A B C (prs c 0 1 ++ prs c 1 2))) = cnt ((pts3 c).map (T3 A B C (prs c 1 2 ++ prs c 0 1))) := cnt_ke fun x y _ _ => T3_ke A B C x y
  have a1 := LEFT_add A B
  have a2 := LEFT_add AB C
  have a3 := LEFT_add B C
  have a4 := LEFT_add A BC
  have b1 : nU A B = nP AB := (h1.cnt).symm
  have b2 : nU B C = nP BC := (h2.cnt).symm
  have b3 : nU AB C = nU A BC := k.cnt
  omega
/-! ### rings -/
def cls (c : Nat) : List (P1 c × P1 c) := (List.finRange c).map fun i => ((false, i), (true, i))
def CL (A : Fg c) : P1 c → Nat := glue A (cls c)
def RINGS (A : Fg c) : Nat := cnt ((side c false).map (CL A))
theorem CL_tb (A : Fg c) (i : Fin c) : CL A (false, i) = CL A (true, i) := glue_pr (List.mem_map.mpr ⟨i, List.mem_finRange i, rfl⟩)
theorem RINGS_all (A : Fg c) : RINGS A = cnt ((pts1 c).map (CL A)) := by
  unfold RINGS pts1
  refine cnt_congr fun v => ?_
  rw [List.map_append, List.mem_append]
  refine ⟨.inl, fun h => h.elim id fun h => ?_⟩
  unfold side at h ⊢
  rw [List.map_map] at h ⊢
  obtain ⟨i, hi, e⟩ := List.mem_map.mp h
  exact List.mem_map.mpr ⟨i, hi, (CL_tb A i).trans e⟩
theorem CL_ke {A B : Fg c} (h : KF A B) : KF (CL A) (CL B) := fun x y => glue_ke (S := fun _ => True) (fun x y _ _ => h x y) (fun _ _ => ⟨trivial, trivial⟩) x y trivial trivial
theorem RINGS_ke {A B : Fg c} (h : KF A B) : RINGS A = RINGS B := cnt_ke fun x y _ _ => CL_ke h x y
/-- two figures in a ring -/
def TR (A B : Fg c) : Pt c → Nat × Nat := glue (lab (two A B)) (prs c 0 1 ++ prs c 1 0)
theorem rings_up {A B AB : Fg c} (h : KF AB (UP A B)) : cnt ((pts2 c).map (TR A B)) = RINGS AB + LEFT A B := by
  have q := contract (f := lab (two A B)) (g := AB) (inner := prs c 0 1) (ps := (cls c).map fun r => (r.2, r.1)) (all := pts2 c) (pts := pts1 c) out (fun x y _ _ => h x y) (fun r hr => ⟨mem_pts1 _, mem_pts1 _⟩) fun x _ => out_in x
  have e : ((cls c).map fun r => (r.2, r.1)).map (fun r : P1 c × P1 c => (out r.1, out r.2)) = prs c 1 0 := by
    unfold cls prs
    rw [List.map_map, List.map_map]
    rfl
  rw [e] at q
  have k := q.2
  have e1 : cnt ((pts1 c).map (glue AB ((cls c).map fun r => (r.2, r.1)))) = RINGS AB := by
    rw [RINGS_all]
    refine cnt_ke fun x y _ _ => ?_
    unfold CL
    rw [glue_iff, glue_iff]
    refine ⟨fun h => h.map id (fun x y h => .ker h) fun x y h => ?_, fun h => h.map id (fun x y h => .ker h) fun x y h => ?_⟩
    · obtain ⟨r, hr, e⟩ := List.mem_map.mp h
      cases e
      exact .sym (.pr hr)
    · exact .sym (.pr (List.mem_map.mpr ⟨_, h, rfl⟩))
  rw [e1] at k
  have a := LEFT_add A B
  have b : nU A B = cnt ((pts1 c).map AB) := (h.cnt).symm
  have c1 : cnt ((pts2 c).map (glue (lab (two A B)) (prs c 0 1))) = AL A B := rfl
  rw [c1] at k
  unfold TR
  omega
def swp (x : Pt c) : Pt c := (if x.1 = 0 then 1 else 0, x.2)
theorem TR_swap (A B : Fg c) : cnt ((pts2 c).map (TR A B)) = cnt ((pts2 c).map (TR B A)) := by
  have ke : KE (· ∈ pts2 c) (TR A B) (fun x => TR B A (swp x)) := by
    unfold TR
    have q := glue_comp swp (prs c 1 0 ++ prs c 0 1) (lab (two B A))
    have e : (prs c 1 0 ++ prs c 0 1).map (fun r : Pt c × Pt c => (swp r.1, swp r.2)) = prs c 0 1 ++ prs c 1 0 := by
      unfold prs
      rw [List.map_append, List.map_map, List.map_map]
      rfl
    rw [e] at q
    rw [← q]
    have k0 : KE (· ∈ pts2 c) (glue (lab (two A B)) (prs c 0 1 ++ prs c 1 0)) (glue (lab (two A B)) (prs c 1 0 ++ prs c 0 1)) := fun x y _ _ => by
      have sw : ∀ {ps qs : List (Pt c × Pt c)} {x y : Pt c}, EG (lab (two A B)) (ps ++ qs) x y → EG (lab (two A B)) (qs ++ ps) x y := fun {ps qs x y} h =>
        h.map id (fun x y h => .ker h) fun x y h => .pr (by
          rcases List.mem_append.mp h with h | h
          · exact List.mem_append_right _ h
          · exact List.mem_append_left _ h)
      rw [glue_iff, glue_iff]
      exact ⟨sw, sw⟩
    have k1 : KE (· ∈ pts2 c) (lab (two A B)) (fun x => lab (two B A) (swp x)) := fun x y hx hy => by
      obtain ⟨j, x⟩ := x
      obtain ⟨k, y⟩ := y
      have hx := mem_pts2.mp hx
      have hy := mem_pts2.mp hy
      unfold lab two swp
      simp only at hx hy
      rcases hx with rfl | rfl <;> rcases hy with rfl | rfl <;> simp
    have k2 := glue_ke (ps := prs c 1 0 ++ prs c 0 1) k1 fun r hr => by
      rcases List.mem_append.mp hr with hr | hr
      · exact prs_in2 (.inr rfl) (.inl rfl) r hr
      · exact prs_in2 (.inl rfl) (.inr rfl) r hr
    exact fun x y hx hy => (k0 x y hx hy).trans (k2 x y hx hy)
  rw [cnt_ke ke]
  have e : (pts2 c).map (fun x => TR B A (swp x)) = ((pts2 c).map swp).map (TR B A) := by rw [List.map_map]; rfl
  rw [e]
  refine cnt_congr fun v => ?_
  have e2 : ∀ x, x ∈ (pts2 c).map swp ↔ x ∈ pts2 c := fun x => by
    rw [List.mem_map]
    refine ⟨fun ⟨y, hy, e⟩ => ?_, fun hx => ⟨swp x, ?_, ?_⟩⟩
    · rw [← e, mem_pts2]
      unfold swp
      by_cases z : y.1 = 0 <;> simp [z]
    · rw [mem_pts2]
      unfold swp
      by_cases z : x.1 = 0 <;> simp [z]
    · obtain ⟨j, x⟩ := x
      have hx := mem_pts2.mp hx
      simp only at hx
      rcases hx with rfl | rfl <;> rfl
  rw [List.mem_map, List.mem_map]
  exact ⟨fun ⟨x, hx, e⟩ => ⟨x, (e2 x).mp hx, e⟩, fun ⟨x, hx, e⟩ => ⟨x, (e2 x).mpr hx, e⟩⟩
/-- A upon B has as many rings, with what is left over, as B upon A -/
theorem trace {A B AB BA : Fg c} (h1 : KF AB (UP A B)) (h2 : KF BA (UP B A)) : RINGS AB + LEFT A B = RINGS BA + LEFT B A := by
  rw [← rings_up h1, ← rings_up h2]
  exact TR_swap A B
/-! ### straight -/
def ST (c : Nat) : Fg c := fun x => x.2.val
theorem T2_st {A : Fg c} (x y : Pt c) (hx : x ∈ pts2 c) (hy : y ∈ pts2 c) : T2 (ST c) A x = T2 (ST c) A y ↔ A (if x.1 = 0 then (false, x.2.2) else x.2) = A (if y.1 = 0 then (false, y.2.2) else y.2) := by
  unfold T2
  rw [glue_iff]
  constructor
  · intro h
    refine h.to (g := fun x : Pt c => A (if x.1 = 0 then (false, x.2.2) else x.2)) (fun x y h => ?_) fun x y h => ?_
    · have h1 : (lab (two (ST c) A) x).1 = (lab (two (ST c) A) y).1 := congrArg Prod.fst h
      have h1 : x.1 = y.1 := h1
      have h2 : (lab (two (ST c) A) x).2 = (lab (two (ST c) A) y).2 := congrArg Prod.snd h
      have h2 : two (ST c) A x.1 x.2 = two (ST c) A y.1 y.2 := h2
      rw [← h1] at h2
      rw [← h1]
      unfold two at h2
      by_cases z : x.1 = 0
      · rw [if_pos z] at h2
        rw [if_pos z, if_pos z]
        have : x.2.2 = y.2.2 := Fin.ext h2
        rw [this]
      · rw [if_neg z] at h2
        rw [if_neg z, if_neg z]
        exact h2
    · obtain ⟨i, e⟩ := mem_prs.mp h
      cases e
      rfl
  · intro h
    have to1 : ∀ x : Pt c, x ∈ pts2 c → EG (lab (two (ST c) A)) (prs c 0 1) x (1, if x.1 = 0 then (false, x.2.2) else x.2) := fun x hx => by
      obtain ⟨j, s, i⟩ := x
      have hx := mem_pts2.mp hx
      simp only at hx
      rcases hx with rfl | rfl
      · exact .tr (.ker (y := (0, true, i)) rfl) (.pr (mem_prs.mpr ⟨i, rfl⟩))
      · exact .ker rfl
    refine .tr (to1 x hx) (.tr (.ker ?_) (.sym (to1 y hy)))
    show ((1, A _) : Nat × Nat) = (1, A _)
    rw [h]
theorem st_up (A : Fg c) : KF (UP (ST c) A) A := fun x y => by
  unfold UP
  rw [T2_st _ _ (out_in x) (out_in y)]
  have e : ∀ z : P1 c, (if (out z).1 = 0 then (false, (out z).2.2) else (out z).2) = z := fun z => by
    obtain ⟨s, i⟩ := z
    cases s <;> rfl
  rw [e, e]
theorem st_left (A : Fg c) : LEFT (ST c) A = 0 := by
  have a := LEFT_add (ST c) A
  have b : nU (ST c) A = nP A := (st_up A).cnt
  have d : AL (ST c) A = nP A := by
    unfold AL nP
    have ke : KE (· ∈ pts2 c) (T2 (ST c) A) (fun x => A (if x.1 = 0 then (false, x.2.2) else x.2)) := fun x y hx hy => T2_st x y hx hy
    rw [cnt_ke ke]
    refine cnt_congr fun v => ?_
    rw [List.mem_map, List.mem_map]
    exact ⟨fun ⟨x, _, e⟩ => ⟨_, mem_pts1 _, e⟩, fun ⟨x, _, e⟩ => ⟨(1, x), mem_pts2.mpr (.inr rfl), e⟩⟩
  omega
theorem T2_ts {A : Fg c} (x y : Pt c) (hx : x ∈ pts2 c) (hy : y ∈ pts2 c) : T2 A (ST c) x = T2 A (ST c) y ↔ A (if x.1 = 0 then x.2 else (true, x.2.2)) = A (if y.1 = 0 then y.2 else (true, y.2.2)) := by
  unfold T2
  rw [glue_iff]
  constructor
  · intro h
    refine h.to (g := fun x : Pt c => A (if x.1 = 0 then x.2 else (true, x.2.2))) (fun x y h => ?_) fun x y h => ?_
    · have h1 : (lab (two A (ST c)) x).1 = (lab (two A (ST c)) y).1 := congrArg Prod.fst h
      have h1 : x.1 = y.1 := h1
      have h2 : (lab (two A (ST c)) x).2 = (lab (two A (ST c)) y).2 := congrArg Prod.snd h
      have h2 : two A (ST c) x.1 x.2 = two A (ST c) y.1 y.2 := h2
      rw [← h1] at h2
      rw [← h1]
      unfold two at h2
      by_cases z : x.1 = 0
      · rw [if_pos z] at h2
        rw [if_pos z, if_pos z]
        exact h2
      · rw [if_neg z] at h2
        rw [if_neg z, if_neg z]
        have : x.2.2 = y.2.2 := Fin.ext h2
        rw [this]
    · obtain ⟨i, e⟩ := mem_prs.mp h
      cases e
      rfl
  · intro h
    have to0 : ∀ x : Pt c, x ∈ pts2 c → EG (lab (two A (ST c))) (prs c 0 1) x (0, if x.1 = 0 then x.2 else (true, x.2.2)) := fun x hx => by
      obtain ⟨j, s, i⟩ := x
      have hx := mem_pts2.mp hx
      simp only at hx
      rcases hx with rfl | rfl
      · exact .ker rfl
      · exact .tr (.ker (y := (1, false, i)) rfl) (.sym (.pr (mem_prs.mpr ⟨i, rfl⟩)))
    refine .tr (to0 x hx) (.tr (.ker ?_) (.sym (to0 y hy)))
    show ((0, A _) : Nat × Nat) = (0, A _)
    rw [h]
theorem up_st (A : Fg c) : KF (UP A (ST c)) A := fun x y => by
  unfold UP
  rw [T2_ts _ _ (out_in x) (out_in y)]
  have e : ∀ z : P1 c, (if (out z).1 = 0 then (out z).2 else (true, (out z).2.2)) = z := fun z => by
    obtain ⟨s, i⟩ := z
    cases s <;> rfl
  rw [e, e]
theorem left_st (A : Fg c) : LEFT A (ST c) = 0 := by
  have a := LEFT_add A (ST c)
  have b : nU A (ST c) = nP A := (up_st A).cnt
  have d : AL A (ST c) = nP A := by
    unfold AL nP
    have ke : KE (· ∈ pts2 c) (T2 A (ST c)) (fun x => A (if x.1 = 0 then x.2 else (true, x.2.2))) := fun x y hx hy => T2_ts x y hx hy
    rw [cnt_ke ke]
    refine cnt_congr fun v => ?_
    rw [List.mem_map, List.mem_map]
    exact ⟨fun ⟨x, _, e⟩ => ⟨_, mem_pts1 _, e⟩, fun ⟨x, _, e⟩ => ⟨(0, x), mem_pts2.mpr (.inl rfl), e⟩⟩
  omega
end
end FM
end
section
set_option linter.all false
/-! Figures as lists of numbers. -/
namespace FM
section
variable {α β P : Type} [DecidableEq α] [DecidableEq β]
/-! ### numbered in the order of their first places -/
def ren1 (s : List α × List Nat) (x : α) : List α × List Nat := (if x ∈ s.1 then s.1 else s.1 ++ [x], s.2 ++ [(if x ∈ s.1 then s.1 else s.1 ++ [x]).idxOf x])
def renF (l : List α) : List α × List Nat := l.foldl ren1 ([], [])
def renum (l : List α) : List Nat := (renF l).2
def seen (l : List α) : List α := (renF l).1
theorem ren_ke {f : P → α} {g : P → β} {S : P → Prop} (h : KE S f g) : ∀ (pts zs : List P) (F : List Nat), (∀ x ∈ pts, S x) → (∀ x ∈ zs, S x) → ∃ ws : List P, (∀ x ∈ ws, S x) ∧ ((pts.map f).foldl ren1 (zs.map f, F)).1 = ws.map f ∧ ((pts.map g).foldl ren1 (zs.map g, F)).1 = ws.map g ∧ ((pts.map f).foldl ren1 (zs.map f, F)).2 = ((pts.map g).foldl ren1 (zs.map g, F)).2
  | [], zs, F, _, hz => ⟨zs, hz, rfl, rfl, rfl⟩
  | p :: pts, zs, F, hp, hz => by
    have sp := hp p List.mem_cons_self
    have hp' : ∀ x ∈ pts, S x := fun x hx => hp x (List.mem_cons_of_mem _ hx)
    have e : f p ∈ zs.map f ↔ g p ∈ zs.map g := by
      rw [List.mem_map, List.mem_map]
      exact ⟨fun ⟨q, hq, z⟩ => ⟨q, hq, (h q p (hz q hq) sp).mp z⟩, fun ⟨q, hq, z⟩ => ⟨q, hq, (h q p (hz q hq) sp).mpr z⟩⟩
    have ix : ∀ ws : List P, (∀ x ∈ ws, S x) → (ws.map f).idxOf (f p) = (ws.map g).idxOf (g p) := fun ws hw => by
      induction ws with
      | nil => rfl
      | cons w ws ih =>
        have ih := ih fun x hx => hw x (List.mem_cons_of_mem _ hx)
        have k := h w p (hw w List.mem_cons_self) sp
        rw [List.map_cons, List.map_cons, List.idxOf_cons, List.idxOf_cons, ih]
        by_cases z : f w = f p
        · have z2 := k.mp z
          simp [z, z2]
        · have z2 : ¬ g w = g p := fun q => z (k.mpr q)
          have e1 : (f w == f p) = false := by simpa using z
          have e2 : (g w == g p) = false := by simpa using z2
          rw [e1, e2]
    by_cases z : f p ∈ zs.map f
    · have z2 := e.mp z
      obtain ⟨ws, h1, h2, h3, h4⟩ := ren_ke h pts zs (F ++ [(zs.map f).idxOf (f p)]) hp' hz
      refine ⟨ws, h1, ?_, ?_, ?_⟩
      · rw [List.map_cons, List.foldl_cons, ren1, if_pos z]; exact h2
      · rw [List.map_cons, List.foldl_cons, ren1, if_pos z2, ← ix zs hz]; exact h3
      · rw [List.map_cons, List.map_cons, List.foldl_cons, List.foldl_cons, ren1, ren1, if_pos z, if_pos z2, ← ix zs hz]; exact h4
    · have z2 : ¬ g p ∈ zs.map g := fun q => z (e.mpr q)
      have hz2 : ∀ x ∈ zs ++ [p], S x := fun x hx => by
        rcases List.mem_append.mp hx with hx | hx
        · exact hz x hx
        · rw [List.mem_singleton.mp hx]; exact sp
      have m1 : zs.map f ++ [f p] = (zs ++ [p]).map f := by rw [List.map_append]; rfl
      have m2 : zs.map g ++ [g p] = (zs ++ [p]).map g := by rw [List.map_append]; rfl
      obtain ⟨ws, h1, h2, h3, h4⟩ := ren_ke h pts (zs ++ [p]) (F ++ [((zs ++ [p]).map f).idxOf (f p)]) hp' hz2
      refine ⟨ws, h1, ?_, ?_, ?_⟩
      · rw [List.map_cons, List.foldl_cons, ren1, if_neg z, m1]; exact h2
      · rw [List.map_cons, List.foldl_cons, ren1, if_neg z2, m2, ← ix _ hz2]; exact h3
      · rw [List.map_cons, List.map_cons, List.foldl_cons, List.foldl_cons, ren1, ren1, if_neg z, if_neg z2, m1, m2, ← ix _ hz2]; exact h4
theorem renum_ke {f : P → α} {g : P → β} {pts : List P} (h : KE (· ∈ pts) f g) : renum (pts.map f) = renum (pts.map g) := by
  obtain ⟨ws, _, _, _, e⟩ := ren_ke h pts [] [] (fun _ hx => hx) (fun _ hx => nomatch hx)
  exact e
theorem idx_app {S T : List α} {x : α} (h : x ∈ S) : (S ++ T).idxOf x = S.idxOf x := by rw [List.idxOf_append, if_pos h]
theorem ren_run : ∀ (l S : List α) (F : List Nat), S.Nodup → ∃ T : List α, (l.foldl ren1 (S, F)) = (S ++ T, F ++ l.map fun x => (S ++ T).idxOf x) ∧ (S ++ T).Nodup ∧ ∀ v, v ∈ S ++ T ↔ v ∈ S ∨ v ∈ l
  | [], S, F, nd => ⟨[], by simp, by simpa using nd, fun v => by simp⟩
  | x :: l, S, F, nd => by
    rw [List.foldl_cons, show ren1 (S, F) x = ((if x ∈ S then S else S ++ [x]), F ++ [(if x ∈ S then S else S ++ [x]).idxOf x]) from rfl]
    by_cases z : x ∈ S
    · rw [if_pos z]
      obtain ⟨T, h1, h2, h3⟩ := ren_run l S (F ++ [S.idxOf x]) nd
      refine ⟨T, ?_, h2, fun v => ?_⟩
      · rw [h1, List.map_cons, List.append_assoc, idx_app z]
        rfl
      · rw [h3, List.mem_cons]
        constructor
        · rintro (h | h)
          · exact .inl h
          · exact .inr (.inr h)
        · rintro (h | h | h)
          · exact .inl h
          · exact .inl (h ▸ z)
          · exact .inr h
    · rw [if_neg z]
      have nd2 : (S ++ [x]).Nodup := by
        rw [List.nodup_append]
        exact ⟨nd, by simp, fun a ha b hb => by
          rw [List.mem_singleton.mp hb]
          exact fun e => z (e ▸ ha)⟩
      have hx : x ∈ S ++ [x] := List.mem_append_right _ (List.mem_singleton.mpr rfl)
      obtain ⟨T, h1, h2, h3⟩ := ren_run l (S ++ [x]) (F ++ [(S ++ [x]).idxOf x]) nd2
      refine ⟨x :: T, ?_, by simpa using h2, fun v => ?_⟩
      · rw [h1, List.map_cons, List.append_assoc F]
        have e : S ++ [x] ++ T = S ++ x :: T := by simp
        rw [← e, ← idx_app (T := T) hx]
        rfl
      · have e : S ++ [x] ++ T = S ++ x :: T := by simp
        rw [← e, h3, List.mem_append, List.mem_singleton, List.mem_cons, or_assoc]
theorem ren_all (l : List α) : renum l = l.map (fun x => (seen l).idxOf x) ∧ (seen l).Nodup ∧ ∀ v, v ∈ seen l ↔ v ∈ l := by
  obtain ⟨T, h1, h2, h3⟩ := ren_run l [] [] List.nodup_nil
  have e1 : seen l = T := congrArg Prod.fst h1
  have e2 : renum l = l.map (fun x => T.idxOf x) := congrArg Prod.snd h1
  rw [e1]
  exact ⟨e2, h2, fun v => by simpa using h3 v⟩
theorem renum_len (l : List α) : (renum l).length = l.length := by rw [(ren_all l).1, List.length_map]
theorem seen_len (l : List α) : (seen l).length = cnt l := by
  have h := ren_all l
  exact Nat.le_antisymm (len_le h.2.1 fun v hv => mem_dd.mpr ((h.2.2 v).mp hv)) (len_le (nodup_dd l) fun v hv => (h.2.2 v).mpr (mem_dd.mp hv))
theorem idx_inj {l : List α} {x y : α} (hx : x ∈ l) (h : l.idxOf x = l.idxOf y) : x = y := by
  have h1 : l.idxOf x < l.length := List.idxOf_lt_length_of_mem hx
  have h2 : l.idxOf y < l.length := h ▸ h1
  have e1 : l[l.idxOf x] = x := List.getElem_idxOf h1
  have e2 : l[l.idxOf y] = y := List.getElem_idxOf h2
  rw [← e1, ← e2]
  congr 1
/-- the numbers have the kernel of what they number -/
theorem renum_ker (f : P → α) (pts : List P) : ∃ g : P → Nat, renum (pts.map f) = pts.map g ∧ KE (· ∈ pts) g f := by
  refine ⟨fun x => (seen (pts.map f)).idxOf (f x), by rw [(ren_all (pts.map f)).1, List.map_map]; rfl, fun x y hx hy => ⟨fun e => ?_, fun e => by dsimp only; rw [e]⟩⟩
  exact idx_inj (((ren_all (pts.map f)).2.2 _).mpr (List.mem_map_of_mem hx)) e
theorem renum_lt {l : List α} {n : Nat} (h : n ∈ renum l) : n < cnt l := by
  rw [(ren_all l).1] at h
  obtain ⟨x, hx, rfl⟩ := List.mem_map.mp h
  rw [← seen_len]
  exact List.idxOf_lt_length_of_mem (((ren_all l).2.2 x).mpr hx)
theorem renum_onto {l : List α} {n : Nat} (h : n < cnt l) : n ∈ renum l := by
  rw [← seen_len] at h
  rw [(ren_all l).1]
  have hm : (seen l)[n] ∈ seen l := List.getElem_mem h
  refine List.mem_map.mpr ⟨(seen l)[n], ((ren_all l).2.2 _).mp hm, ?_⟩
  exact List.Nodup.idxOf_getElem (ren_all l).2.1 n h
theorem renum_idem (l : List α) : renum (renum l) = renum l := by
  have e := (ren_all l).1
  have k : KE (· ∈ l) (fun x => (seen l).idxOf x) (fun x : α => x) := fun x y hx hy => ⟨fun e => idx_inj (((ren_all l).2.2 _).mpr hx) e, fun e => by dsimp only; rw [show x = y from e]⟩
  have q := renum_ke k
  rw [← e, List.map_id'] at q
  exact q
end
/-! ### figures of c cords -/
section
variable {c : Nat} {α β : Type} [DecidableEq α] [DecidableEq β]
def fg (c : Nat) (xs : List Nat) : Fg c := fun x => xs.getD ((if x.1 = true then c else 0) + x.2.val) 0
def fgl (A : P1 c → α) : List Nat := renum ((pts1 c).map A)
structure Val (c : Nat) (xs : List Nat) : Prop where
  len : xs.length = 2 * c
  ren : renum xs = xs
theorem fin_map {γ : Type} (f : Nat → γ) (n : Nat) : (List.finRange n).map (fun i => f i.val) = (List.range n).map f := by
  apply List.ext_getElem
  · simp
  · intro i h1 h2
    simp
theorem pts1_len (c : Nat) : (pts1 c).length = 2 * c := by
  unfold pts1 side
  simp
  omega
theorem fg_list {xs : List Nat} (h : xs.length = 2 * c) : (pts1 c).map (fg c xs) = xs := by
  unfold pts1 side
  rw [List.map_append, List.map_map, List.map_map]
  have e1 : (List.finRange c).map (fg c xs ∘ fun i => (false, i)) = (List.range c).map fun i => xs.getD i 0 := by
    rw [← fin_map (fun i => xs.getD i 0)]
    refine List.map_congr_left fun i _ => ?_
    show xs.getD (0 + i.val) 0 = _
    rw [Nat.zero_add]
  have e2 : (List.finRange c).map (fg c xs ∘ fun i => (true, i)) = (List.range c).map fun i => xs.getD (c + i) 0 := by
    rw [← fin_map (fun i => xs.getD (c + i) 0)]
    rfl
  rw [e1, e2]
  apply List.ext_getElem
  · simp; omega
  · intro i h1 h2
    rw [List.getElem_append]
    split
    · rename_i h3
      have h4 : i < c := by simpa using h3
      simp [List.getElem?_eq_getElem h2]
    · rename_i h3
      have h4 : ¬ i < c := by simpa using h3
      have e : c + (i - c) = i := by omega
      simp [e, List.getElem?_eq_getElem h2]
theorem fgl_val (A : P1 c → α) : Val c (fgl A) := ⟨by unfold fgl; rw [renum_len, List.length_map, pts1_len], renum_idem _⟩
theorem fgl_kf (A : P1 c → α) : KF (fg c (fgl A)) A := by
  obtain ⟨g, e, k⟩ := renum_ker A (pts1 c)
  have e2 : (pts1 c).map (fg c (fgl A)) = (pts1 c).map g := (fg_list (fgl_val A).len).trans e
  have e3 : ∀ x : P1 c, fg c (fgl A) x = g x := fun x => List.map_inj_left.mp e2 x (mem_pts1 x)
  exact fun x y => by
    rw [e3, e3]
    exact k x y (mem_pts1 x) (mem_pts1 y)
theorem fgl_congr {A : P1 c → α} {B : P1 c → β} (h : KF A B) : fgl A = fgl B := renum_ke fun x y _ _ => h x y
theorem fgl_fg {xs : List Nat} (h : Val c xs) : fgl (fg c xs) = xs := by
  unfold fgl
  rw [fg_list h.len, h.ren]
theorem val_eq {xs ys : List Nat} (hx : Val c xs) (hy : Val c ys) (k : KF (fg c xs) (fg c ys)) : xs = ys := by
  rw [← fgl_fg hx, ← fgl_fg hy, fgl_congr k]
def uponL (c : Nat) (A B : List Nat) : List Nat := fgl (UP (fg c A) (fg c B))
def leftL (c : Nat) (A B : List Nat) : Nat := LEFT (fg c A) (fg c B)
def ringsL (c : Nat) (A : List Nat) : Nat := RINGS (fg c A)
def stL (c : Nat) : List Nat := fgl (ST c)
theorem upon_val (c : Nat) (A B : List Nat) : Val c (uponL c A B) := fgl_val _
theorem st_val (c : Nat) : Val c (stL c) := fgl_val _
theorem upon_kf (A B : List Nat) : KF (fg c (uponL c A B)) (UP (fg c A) (fg c B)) := fgl_kf _
theorem uponL_assoc (A B C : List Nat) : uponL c (uponL c A B) C = uponL c A (uponL c B C) ∧ leftL c A B + leftL c (uponL c A B) C = leftL c B C + leftL c A (uponL c B C) := by
  obtain ⟨h1, h2⟩ := assoc (A := fg c A) (B := fg c B) (C := fg c C) (upon_kf A B) (upon_kf B C)
  exact ⟨fgl_congr h1, h2⟩
theorem uponL_trace (A B : List Nat) : ringsL c (uponL c A B) + leftL c A B = ringsL c (uponL c B A) + leftL c B A := trace (upon_kf A B) (upon_kf B A)
theorem stL_upon {A : List Nat} (h : Val c A) : uponL c (stL c) A = A ∧ leftL c (stL c) A = 0 := by
  have k : KF (fg c (stL c)) (ST c) := fgl_kf _
  refine ⟨?_, ?_⟩
  · refine Eq.trans (fgl_congr ((UP_ke k (KF.refl _)).trans (st_up (fg c A)))) (fgl_fg h)
  · unfold leftL
    rw [LEFT_ke k (KF.refl _)]
    exact st_left _
theorem upon_stL {A : List Nat} (h : Val c A) : uponL c A (stL c) = A ∧ leftL c A (stL c) = 0 := by
  have k : KF (fg c (stL c)) (ST c) := fgl_kf _
  refine ⟨?_, ?_⟩
  · refine Eq.trans (fgl_congr ((UP_ke (KF.refl _) k).trans (up_st (fg c A)))) (fgl_fg h)
  · unfold leftL
    rw [LEFT_ke (KF.refl _) k]
    exact left_st _
theorem snocInd {γ : Type} {motive : List γ → Prop} (nil : motive []) (snoc : ∀ l x, motive l → motive (l ++ [x])) (l : List γ) : motive l := by
  have h : ∀ r : List γ, motive r.reverse := fun r => by
    induction r with
    | nil => exact nil
    | cons x r ih => rw [List.reverse_cons]; exact snoc _ _ ih
  have q := h l.reverse
  rwa [List.reverse_reverse] at q
/-! ### rows -/
def rowF (c : Nat) (s : List Nat × Nat) (ds : List (List Nat)) : List Nat × Nat := ds.foldl (fun s d => (uponL c s.1 d, s.2 + leftL c s.1 d)) s
def rowL (c : Nat) (ds : List (List Nat)) : List Nat × Nat := rowF c (stL c, 0) ds
theorem rowF_val {s : List Nat × Nat} {ds : List (List Nat)} (h : Val c s.1) : Val c (rowF c s ds).1 := by
  induction ds generalizing s with
  | nil => exact h
  | cons d ds ih => exact ih (s := (uponL c s.1 d, s.2 + leftL c s.1 d)) (upon_val c _ _)
theorem rowF_snoc (s : List Nat × Nat) (ds : List (List Nat)) (d : List Nat) : rowF c s (ds ++ [d]) = (uponL c (rowF c s ds).1 d, (rowF c s ds).2 + leftL c (rowF c s ds).1 d) := by
  unfold rowF
  rw [List.foldl_append]
  rfl
/-- a row from any figure on -/
theorem rowF_from (A : List Nat) (hA : Val c A) (n : Nat) : ∀ ds : List (List Nat), rowF c (A, n) ds = (uponL c A (rowL c ds).1, n + leftL c A (rowL c ds).1 + (rowL c ds).2) := by
  intro ds
  induction ds using snocInd with
  | nil =>
    have h := upon_stL hA
    show (A, n) = (uponL c A (stL c), n + leftL c A (stL c) + 0)
    rw [h.1, h.2]
    rfl
  | snoc ds d ih =>
    have h := uponL_assoc (c := c) A (rowL c ds).1 d
    unfold rowL at ih h ⊢
    rw [rowF_snoc, rowF_snoc, ih]
    dsimp only
    rw [h.1]
    congr 1
    omega
end
end FM
end
section
set_option linter.all false
set_option maxRecDepth 100000
/-! Mirrors of loops and comprehensions over lists of whole numbers. -/
namespace FL
open PySem PySem.Spec PyProof.Rows L2 DL FM
def nI (n : Nat) : D := .int (n : Nat)
def nL (xs : List Nat) : List D := xs.map nI
abbrev lD (xs : List Nat) : D := .list (nL xs)
abbrev fD (xs : List Nat) : D := .tuple (nL xs)
theorem nL_len (xs : List Nat) : (nL xs).length = xs.length := List.length_map ..
theorem nL_get {xs : List Nat} {i : Nat} : (nL xs)[i]? = (xs[i]?).map nI := List.getElem?_map ..
theorem sl1000 {n : Nat} (h : n ≤ 1000) : n ≤ sizeLine := Nat.le_of_lt (small1000 h)
theorem atI_n {ds : List D} {i : Nat} : atI ds (i : Int) = ds[i]? := by
  unfold atI ixN
  rw [if_pos (by omega)]
  by_cases h : i < ds.length
  · rw [if_pos (by omega)]
    simp
  · rw [if_neg (by omega)]
    simp [List.getElem?_eq_none (by omega : ds.length ≤ i)]
theorem dIx_l {ds : List D} {i : Nat} : dIx (.list ds) (.int (i : Int)) = ds[i]? := atI_n
theorem dIx_t {ds : List D} {i : Nat} : dIx (.tuple ds) (.int (i : Int)) = ds[i]? := atI_n
theorem nL_at {xs : List Nat} {i : Nat} (h : i < xs.length) : (nL xs)[i]? = some (nI (xs.getD i 0)) := by
  rw [nL_get, List.getElem?_eq_getElem h]
  simp [List.getD_eq_getElem?_getD, h]
theorem dEq_int {i j : Int} : dEq (.int i) (.int j) = some (.bool (decide (i = j))) := by
  unfold dEq
  rw [if_pos ⟨rfl, rfl⟩]
  simp [PyData.eqv]
  by_cases h : i = j <;> simp [h]
theorem dNe_int {i j : Int} : dNe (.int i) (.int j) = some (.bool (!decide (i = j))) := by
  unfold dNe
  rw [if_pos ⟨rfl, rfl⟩]
  simp [PyData.eqv]
  by_cases h : i = j <;> simp [h]
theorem bret {α β : Type} (a : α) (f : α → Tr β) : (Tr.ret a).bind f = f a := rfl
theorem ofS {α : Type} (a : α) : Tr.ofOpt (some a) = .ret a := rfl
/-! ### comprehensions -/
theorem comp_all {tgt : FG} {t : FT} {fe : FE} {env : Ev} {γ : Type} {dd : γ → D} {g : γ → D} : ∀ (xs : List γ), (∀ x ∈ xs, ∃ env1, tgt (dd x) env = some env1 ∧ t env1 = .ret true ∧ fe env1 = .ret (g x)) → compD tgt t fe env (xs.map dd) = .ret (xs.map g)
  | [], _ => rfl
  | x :: xs, h => by
    obtain ⟨e1, h1, h2, h3⟩ := h x List.mem_cons_self
    rw [List.map_cons, List.map_cons, compD, h1]
    simp only [h2, bret, if_true, h3]
    rw [comp_all xs fun y hy => h y (List.mem_cons_of_mem _ hy)]
    rfl
theorem comp_filter {tgt : FG} {t : FT} {fe : FE} {env : Ev} {γ : Type} {dd : γ → D} {g : γ → D} {p : γ → Bool} : ∀ (xs : List γ), (∀ x ∈ xs, ∃ env1, tgt (dd x) env = some env1 ∧ t env1 = .ret (p x) ∧ (p x = true → fe env1 = .ret (g x))) → compD tgt t fe env (xs.map dd) = .ret ((xs.filter p).map g)
  | [], _ => rfl
  | x :: xs, h => by
    obtain ⟨e1, h1, h2, h3⟩ := h x List.mem_cons_self
    have ih := comp_filter xs fun y hy => h y (List.mem_cons_of_mem _ hy)
    rw [List.map_cons, compD, h1]
    simp only [h2, bret]
    by_cases z : p x = true
    · rw [if_pos z, h3 z, bret, ih, bret, List.filter_cons_of_pos z]
      rfl
    · rw [if_neg z, ih, List.filter_cons_of_neg z]
theorem end_all {tgt : FG} {t : FT} {fe : FE} {env : Ev} {γ : Type} {dd : γ → D} {g : γ → D} {xs : List γ} (hz : xs.length ≤ 1000) (h : ∀ x ∈ xs, ∃ env1, tgt (dd x) env = some env1 ∧ t env1 = .ret true ∧ fe env1 = .ret (g x)) : endComp tgt t fe env (xs.map dd) = .ret (.list (xs.map g)) := by
  unfold endComp
  rw [if_pos (by rw [List.length_map]; exact sl1000 hz), comp_all xs h]
  rfl
theorem end_filter {tgt : FG} {t : FT} {fe : FE} {env : Ev} {γ : Type} {dd : γ → D} {g : γ → D} {p : γ → Bool} {xs : List γ} (hz : xs.length ≤ 1000) (h : ∀ x ∈ xs, ∃ env1, tgt (dd x) env = some env1 ∧ t env1 = .ret (p x) ∧ (p x = true → fe env1 = .ret (g x))) : endComp tgt t fe env (xs.map dd) = .ret (.list ((xs.filter p).map g)) := by
  unfold endComp
  rw [if_pos (by rw [List.length_map]; exact sl1000 hz), comp_filter xs h]
  rfl
/-! ### loops -/
theorem for_fold {tgt : FG} {body : FS} {γ σ : Type} {dd : γ → D} (I : σ → Ev → Prop) (step : σ → γ → σ) : ∀ (xs : List γ) (s : σ) (env : Ev), I s env → (∀ s x env, x ∈ xs → I s env → ∃ env1 env2, tgt (dd x) env = some env1 ∧ body env1 = .ret (.nx env2) ∧ I (step s x) env2) → ∃ env', forD tgt body (xs.map dd) env = .ret (.nx env') ∧ I (xs.foldl step s) env'
  | [], s, env, h, _ => ⟨env, rfl, h⟩
  | x :: xs, s, env, h, k => by
    obtain ⟨e1, e2, h1, h2, h3⟩ := k s x env List.mem_cons_self h
    obtain ⟨e3, h4, h5⟩ := for_fold I step xs (step s x) e2 h3 fun s y env hy => k s y env (List.mem_cons_of_mem _ hy)
    refine ⟨e3, ?_, h5⟩
    rw [List.map_cons, forD, h1]
    simp only [h2, bret]
    exact h4
theorem rng_n (n : Nat) : rngD 0 n = (List.range n).map nI := by
  unfold rngD nI
  refine List.map_congr_left fun i _ => ?_
  rw [Int.zero_add]
theorem rngOf_n {n : Nat} (h : n ≤ 1000) : rngOf [.int (n : Nat)] = some (0, n) := by
  have e : ok62 (n : Int) = true := decide_eq_true (by omega)
  simp only [rngOf, if_pos e]
  congr 1
/-! ### members, first places -/
theorem eqv_int {i j : Int} : PyData.eqv (.int i) (.int j) = decide (i = j) := by
  simp [PyData.eqv]
  by_cases h : i = j <;> simp [h]
theorem memD_n (x : Nat) : ∀ xs : List Nat, memD (nI x) (nL xs) = decide (x ∈ xs)
  | [] => rfl
  | y :: xs => by
    have ih := memD_n x xs
    unfold memD at ih ⊢
    unfold nL at ih ⊢
    rw [List.map_cons, List.any_cons, ih]
    unfold nI
    rw [eqv_int]
    by_cases h : y = x
    · subst h; simp
    · have h1 : ¬ ((y : Int) = (x : Int)) := by omega
      have h2 : ¬ (x = y) := fun e => h e.symm
      simp [h1, h2]
theorem flat_n (xs : List Nat) : (nL xs).all flatD = true := by
  unfold nL
  rw [List.all_map]
  exact List.all_eq_true.mpr fun _ _ => rfl
theorem dIn_n {neg : Bool} {x : Nat} {xs : List Nat} : dIn neg (nI x) (lD xs) = some (.bool (if neg = true then !decide (x ∈ xs) else decide (x ∈ xs))) := by
  unfold lD dIn
  dsimp only
  rw [if_pos ⟨rfl, flat_n xs⟩, memD_n]
theorem dInT_n {neg : Bool} {x : Nat} {xs : List Nat} : dIn neg (nI x) (fD xs) = some (.bool (if neg = true then !decide (x ∈ xs) else decide (x ∈ xs))) := by
  unfold fD dIn
  dsimp only
  rw [if_pos ⟨rfl, flat_n xs⟩, memD_n]
theorem find_n (x : Nat) : ∀ xs : List Nat, (nL xs).findIdx (fun z => PyData.eqv z (nI x)) = xs.idxOf x
  | [] => rfl
  | y :: xs => by
    have ih := find_n x xs
    unfold nL at ih ⊢
    rw [List.map_cons, List.findIdx_cons, List.idxOf_cons, ih]
    unfold nI
    rw [eqv_int]
    by_cases h : y = x
    · subst h; simp
    · have h1 : ¬ ((y : Int) = (x : Int)) := by omega
      have h2 : (y == x) = false := by simpa using h
      simp [h1, h2]
theorem dIdx_n {x : Nat} {xs : List Nat} (h : x ∈ xs) : dIdx (nL xs) (nI x) = some (nI (xs.idxOf x)) := by
  unfold dIdx
  rw [if_pos ⟨rfl, flat_n xs⟩, if_pos (by rw [memD_n]; exact decide_eq_true h), find_n]
  rfl
/-! ### numbers dict -/
def dz : List Nat → Nat → List (D × D)
  | [], _ => []
  | x :: r, i => (nI x, nI i) :: dz r (i + 1)
theorem dz_len : ∀ (S : List Nat) (i : Nat), (dz S i).length = S.length
  | [], _ => rfl
  | _ :: r, i => congrArg (· + 1) (dz_len r (i + 1))
theorem isKey_n {x y : Nat} : isKey (.inl (x : Int)) (nI y) = decide (y = x) := by
  unfold isKey nI DL.keyOf
  by_cases h : y = x
  · subst h; simp
  · have : ¬ ((y : Int) = (x : Int)) := by omega
    simp [h, this]
theorem dz_get (x : Nat) : ∀ (S : List Nat) (i : Nat), DL.getD (dz S i) (.inl (x : Int)) = if x ∈ S then some (nI (i + S.idxOf x)) else none
  | [], _ => rfl
  | y :: r, i => by
    have ih := dz_get x r (i + 1)
    unfold DL.getD at ih ⊢
    unfold dz
    rw [List.find?_cons, List.idxOf_cons]
    dsimp only
    rw [isKey_n]
    by_cases h : y = x
    · subst h; simp
    · have h2 : (y == x) = false := by simpa using h
      have h3 : ¬ (x = y) := fun e => h e.symm
      rw [decide_eq_false h]
      dsimp only
      rw [ih, h2]
      simp only [List.mem_cons, h3, false_or, cond_false]
      by_cases z : x ∈ r
      · rw [if_pos z, if_pos z]; congr 2; omega
      · rw [if_neg z, if_neg z]
theorem dz_any (x : Nat) : ∀ (S : List Nat) (i : Nat), ((dz S i).any fun e => isKey (.inl (x : Int)) e.1) = decide (x ∈ S)
  | [], _ => rfl
  | y :: r, i => by
    unfold dz
    rw [List.any_cons, dz_any x r (i + 1)]
    dsimp only
    rw [isKey_n]
    by_cases h : y = x
    · subst h; simp
    · have h3 : ¬ (x = y) := fun e => h e.symm
      simp [h, h3]
theorem dz_app (x : Nat) : ∀ (S : List Nat) (i : Nat), dz (S ++ [x]) i = dz S i ++ [(nI x, nI (i + S.length))]
  | [], _ => rfl
  | y :: r, i => by
    show (nI y, nI i) :: dz (r ++ [x]) (i + 1) = _
    rw [dz_app x r (i + 1)]
    show _ = (nI y, nI i) :: (dz r (i + 1) ++ [(nI x, nI (i + (r.length + 1)))])
    rw [show i + 1 + r.length = i + (r.length + 1) by omega]
theorem dz_put {x : Nat} {S : List Nat} (h : x ∉ S) : putD (dz S 0) (.inl (x : Int)) (nI S.length) = dz (S ++ [x]) 0 := by
  unfold putD
  rw [dz_any, if_neg (by simpa using h), dz_app, Nat.zero_add]
  rfl
theorem keyOf_n (x : Nat) : DL.keyOf (nI x) = some (.inl (x : Int)) := rfl
end FL
namespace FL
open PySem PySem.Spec PyProof.Rows L2 DL FM
/-- a loop by an invariant that counts its turns -/
theorem for_k {tgt : FG} {body : FS} {γ σ : Type} {dd : γ → D} (I : Nat → σ → Ev → Prop) (step : σ → γ → σ) (all : List γ) (k : ∀ i s x env, all[i]? = some x → I i s env → ∃ env1 env2, tgt (dd x) env = some env1 ∧ body env1 = .ret (.nx env2) ∧ I (i + 1) (step s x) env2) :
    ∀ (xs : List γ) (i : Nat) (s : σ) (env : Ev), all.drop i = xs → I i s env → ∃ env', forD tgt body (xs.map dd) env = .ret (.nx env') ∧ I (i + xs.length) (xs.foldl step s) env'
  | [], i, s, env, _, h => ⟨env, rfl, h⟩
  | x :: xs, i, s, env, e, h => by
    have hx : all[i]? = some x := by
      have : (all.drop i)[0]? = some x := by rw [e]; rfl
      rwa [List.getElem?_drop, Nat.add_zero] at this
    obtain ⟨e1, e2, h1, h2, h3⟩ := k i s x env hx h
    obtain ⟨e3, h4, h5⟩ := for_k I step all k xs (i + 1) (step s x) e2 (by rw [← List.drop_drop, e]; rfl) h3
    refine ⟨e3, ?_, ?_⟩
    · rw [List.map_cons, forD, h1]
      simp only [h2, bret]
      exact h4
    · rw [List.length_cons, show i + (xs.length + 1) = i + 1 + xs.length by omega]
      exact h5
theorem for_all {tgt : FG} {body : FS} {γ σ : Type} {dd : γ → D} (I : Nat → σ → Ev → Prop) (step : σ → γ → σ) {xs : List γ} {s : σ} {env : Ev} (h : I 0 s env) (k : ∀ i s x env, xs[i]? = some x → I i s env → ∃ env1 env2, tgt (dd x) env = some env1 ∧ body env1 = .ret (.nx env2) ∧ I (i + 1) (step s x) env2) :
    ∃ env', forD tgt body (xs.map dd) env = .ret (.nx env') ∧ I xs.length (xs.foldl step s) env' := by
  have q := for_k I step xs k xs 0 s env rfl h
  rwa [Nat.zero_add] at q
end FL
end
section
set_option linter.all false
set_option maxRecDepth 100000
/-! The mirrors of the program's and the law's small defs. -/
namespace FL
open PySem PySem.Spec PyProof.Rows L2 DL
def d_WORDS : D := (.tuple [(.str "cut"), (.str "hook"), (.str "join"), (.str "swap")])
abbrev m_law_draw := fDraw
abbrev m_points_by_piece := fPieces
def m_is_between : List Slot → Tr D := fnF 3 .v (sRet (vAnd (eTy false "int" (eVar 0)) (eChain dLe dLe (eVar 1) (eVar 0) (eVar 2))))
def m_need_cords : List Slot → Tr D := fnF 1 .v (sIf (bNot (tt (eCall m_is_between (aVal (eVar 0) (aVal (eC (.int 1)) (aVal (eC (.int 5)) aNil)))))) (fun _ => .fail) sNext)
def m_wrong_point : List Slot → Tr D := fnF 4 .v (sSeq (sSet 1 (eC (.int 0))) (sSeq (sForE (lCons (eVar 0) lNil) (gT 2 (gsCons (gN 2) (gsCons (gN 3) gsNil))) (sSeq (sIf (bNot (tt (eCall m_is_between (aVal (eVar 3) (aVal (eC (.int 0)) (aVal (eVar 1) aNil)))))) (sRet (eVar 2)) sNext) (sIf (tt (e2 dEq (eVar 3) (eVar 1))) (sSet 1 (e2 dAddA (eVar 1) (eC (.int 1)))) sNext))) (sRet (eC .none))))
def m_need_figure : List Slot → Tr D := fnF 3 .v (sSeq (sIf (bOr (fTy true "tuple" (eVar 1)) (tt (e2 dNe (eCB dLenA (lCons (eVar 1) lNil)) (e2 dMul (eC (.int 2)) (eVar 0))))) (fun _ => .fail) sNext) (sSeq (sSet 2 (eCall m_wrong_point (aVal (eVar 1) aNil))) (sIf (tt (e2 dNotN (eVar 2) (eC .none))) (fun _ => .fail) sNext)))
def m_need_two_figures : List Slot → Tr D := fnF 3 .v (sSeq (sExpr (eCall m_need_cords (aVal (eVar 0) aNil))) (sSeq (sExpr (eCall m_need_figure (aVal (eVar 0) (aVal (eVar 1) aNil)))) (sExpr (eCall m_need_figure (aVal (eVar 0) (aVal (eVar 2) aNil))))))
def m_places_for : List Slot → Tr D := fnF 2 .v (sSeq (sIf (tt (e2 dEq (eVar 1) (eC (.str "cut")))) (sRet (eVar 0)) sNext) (sRet (e2 dSub (eVar 0) (eC (.int 1)))))
def m_is_deed : List Slot → Tr D := fnF 4 .v (sSeq (sIf (bOr (fTy true "tuple" (eVar 1)) (tt (e2 dNe (eCB dLenA (lCons (eVar 1) lNil)) (eC (.int 2))))) (sRet (eC (.bool false))) sNext) (sSeq (sAsg (eVar 1) (gT 2 (gsCons (gN 2) (gsCons (gN 3) gsNil)))) (sSeq (sIf (bOr (fTy true "str" (eVar 2)) (tt (e2 (dIn true) (eVar 2) (eC FL.d_WORDS)))) (sRet (eC (.bool false))) sNext) (sRet (eCall m_is_between (aVal (eVar 3) (aVal (eC (.int 0)) (aVal (e2 dSub (eCall m_places_for (aVal (eVar 0) (aVal (eVar 2) aNil))) (eC (.int 1))) aNil))))))))
def m_is_tuple_of_at_most : List Slot → Tr D := fnF 2 .v (sRet (vAnd (eTy false "tuple" (eVar 0)) (e2 dLe (eCB dLenA (lCons (eVar 0) lNil)) (eVar 1))))
def m_need_row : List Slot → Tr D := fnF 4 .v (sSeq (sIf (bNot (tt (eCall m_is_tuple_of_at_most (aVal (eVar 1) (aVal (eC (.int 40)) aNil))))) (fun _ => .fail) sNext) (sForE (lCons (eVar 1) lNil) (gT 2 (gsCons (gN 2) (gsCons (gN 3) gsNil))) (sIf (bNot (tt (eCall m_is_deed (aVal (eVar 0) (aVal (eVar 3) aNil))))) (fun _ => .fail) sNext)))
def m_renumbered : List Slot → Tr D := fnF 4 .v (sSeq (sSetO 1 eDNew) (sSeq (sSetO 2 (eLst lNil)) (sSeq (sForS (eVar 0) (gN 3) (sSeq (sIf (tt (eDIn true 1 (eVar 3))) (sDPutD 1 (eVar 3) (eDLen 1)) sNext) (sApp 2 (eDGet 1 (eVar 3))))) (sRet (eCB dTuple (lCons (eVarB 2) lNil))))))
def m_merged : List Slot → Tr D := fnF 4 .v (sRet (eCompS (eVar 0) (gN 3) fYes (eIf (tt (e2 dEq (eVar 3) (eVar 2))) (eVar 1) (eVar 3)) [3]))
def m_straight_figure : List Slot → Tr D := fnF 1 .v (sRet (e2 dAddA (eRgT (lCons (eVar 0) lNil)) (eRgT (lCons (eVar 0) lNil))))
def m_put_together : List Slot → Tr D := fnF 12 .v (sSeq (sSet 3 (e2 dAddA (eCB dMax1 (lCons (eVar 1) lNil)) (eC (.int 1)))) (sSeq (sSet 4 (eRgL (lCons (e2 dAddA (e2 dAddA (eVar 3) (eCB dMax1 (lCons (eVar 2) lNil))) (eC (.int 1))) lNil))) (sSeq (sForR (lCons (eVar 0) lNil) (gN 5) (sSeq (sSet 9 (e2 dIx (eVar 4) (e2 dIx (eVar 1) (e2 dAddA (eVar 0) (eVar 5))))) (sSeq (sSet 10 (e2 dIx (eVar 4) (e2 dAddA (eVar 3) (e2 dIx (eVar 2) (eVar 5))))) (sIf (tt (e2 dNe (eVar 9) (eVar 10))) (sSet 4 (eCall m_merged (aVal (eVar 4) (aVal (eVar 9) (aVal (eVar 10) aNil))))) sNext)))) (sSeq (sSet 6 (eCompS (eSl dSlA (eVar 1) oNone (oSome (eVar 0))) (gN 11) fYes (e2 dIx (eVar 4) (eVar 11)) [11])) (sSeq (sSet 7 (eCompS (eSl dSlA (eVar 2) (oSome (eVar 0)) oNone) (gN 11) fYes (e2 dIx (eVar 4) (e2 dAddA (eVar 3) (eVar 11))) [11])) (sSeq (sSet 8 (e2 dAddA (eVar 6) (eVar 7))) (sRet (eTup (lCons (eCall m_renumbered (aVal (eVar 8) aNil)) (lCons (e2 dSub (eLenSet (eVar 4)) (eLenSet (eVar 8))) lNil))))))))))
def m_figure_of_deed : List Slot → Tr D := fnF 7 .v (sSeq (sAsg (eVar 1) (gT 2 (gsCons (gN 5) (gsCons (gN 6) gsNil)))) (sSeq (sSetO 2 (eCB dList (lCons (eCall m_straight_figure (aVal (eVar 0) aNil)) lNil))) (sSeq (sSet 3 (eVar 6)) (sSeq (sSet 4 (e2 dAddA (eVar 0) (eVar 6))) (sSeq (sIf (tt (e2 dEq (eVar 5) (eC (.str "cut")))) (sSetIx 2 (eVar 4) (eVar 0)) sNext) (sSeq (sIf (tt (e2 dEq (eVar 5) (eC (.str "hook")))) (sSeq (sSetIx 2 (e2 dAddA (eVar 3) (eC (.int 1))) (e2 dIx (eVarB 2) (eVar 3))) (sSetIx 2 (eVar 4) (e2 dIx (eVarB 2) (e2 dAddA (eVar 4) (eC (.int 1)))))) sNext) (sSeq (sIf (tt (e2 dEq (eVar 5) (eC (.str "join")))) (sSeq (sSetIx 2 (e2 dAddA (eVar 3) (eC (.int 1))) (e2 dIx (eVarB 2) (eVar 3))) (sSetIx 2 (e2 dAddA (eVar 4) (eC (.int 1))) (e2 dIx (eVarB 2) (eVar 4)))) sNext) (sSeq (sIf (tt (e2 dEq (eVar 5) (eC (.str "swap")))) (sSetIx2 2 (eTup (lCons (e2 dIx (eVarB 2) (e2 dAddA (eVar 4) (eC (.int 1)))) (lCons (e2 dIx (eVarB 2) (eVar 4)) lNil))) (eVar 4) (e2 dAddA (eVar 4) (eC (.int 1)))) sNext) (fun env => (sRet (eCall m_renumbered (aVal (eVar 2) aNil))) (frz 2 env))))))))))
def m_row_course : List Slot → Tr D := fnF 7 .v (sSeq (sSetO 2 (eLst (lCons (eCall m_straight_figure (aVal (eVar 0) aNil)) lNil))) (sSeq (sSetO 3 (eLst (lCons (eC (.int 0)) lNil))) (sSeq (sForS (eVar 1) (gN 4) (sSeq (sAsg (eCall m_put_together (aVal (eVar 0) (aVal (e2 dIx (eVarB 2) (eNeg (eC (.int 1)))) (aVal (eCall m_figure_of_deed (aVal (eVar 0) (aVal (eVar 4) aNil))) aNil)))) (gT 2 (gsCons (gN 5) (gsCons (gN 6) gsNil)))) (sSeq (sApp 2 (eVar 5)) (sApp 3 (e2 dAddA (e2 dIx (eVarB 3) (eNeg (eC (.int 1)))) (eVar 6)))))) (fun env => (fun env => (sRet (eTup (lCons (eVar 2) (lCons (eVar 3) lNil)))) (frz 3 env)) (frz 2 env)))))
def m_figures_on_way : List Slot → Tr D := fnF 2 .v (sSeq (sExpr (eCall m_need_cords (aVal (eVar 0) aNil))) (sSeq (sExpr (eCall m_need_row (aVal (eVar 0) (aVal (eVar 1) aNil)))) (sRet (eCB dTuple (lCons (e2 dIx (eCall m_row_course (aVal (eVar 0) (aVal (eVar 1) aNil))) (eC (.int 0))) lNil)))))
def m_leftovers_on_way : List Slot → Tr D := fnF 2 .v (sSeq (sExpr (eCall m_need_cords (aVal (eVar 0) aNil))) (sSeq (sExpr (eCall m_need_row (aVal (eVar 0) (aVal (eVar 1) aNil)))) (sRet (eCB dTuple (lCons (e2 dIx (eCall m_row_course (aVal (eVar 0) (aVal (eVar 1) aNil))) (eC (.int 1))) lNil)))))
def m_figure_of : List Slot → Tr D := fnF 2 .v (sRet (e2 dIx (eCall m_figures_on_way (aVal (eVar 0) (aVal (eVar 1) aNil))) (eNeg (eC (.int 1)))))
def m_leftovers_of : List Slot → Tr D := fnF 2 .v (sRet (e2 dIx (eCall m_leftovers_on_way (aVal (eVar 0) (aVal (eVar 1) aNil))) (eNeg (eC (.int 1)))))
def m_closed_places : List Slot → Tr D := fnF 4 .v (sSeq (sSet 2 (eCB dList (lCons (eVar 1) lNil))) (sSeq (sForR (lCons (eVar 0) lNil) (gN 3) (sSet 2 (eCall m_merged (aVal (eVar 2) (aVal (e2 dIx (eVar 2) (eVar 3)) (aVal (e2 dIx (eVar 2) (e2 dAddA (eVar 0) (eVar 3))) aNil)))))) (sRet (eCall m_renumbered (aVal (eSl dSlA (eVar 2) oNone (oSome (eVar 0))) aNil)))))
def m_many_rings : List Slot → Tr D := fnF 2 .v (sRet (e2 dAddA (eCB dMax1 (lCons (eCall m_closed_places (aVal (eVar 0) (aVal (eVar 1) aNil))) lNil)) (eC (.int 1))))
def m_rings : List Slot → Tr D := fnF 2 .v (sSeq (sExpr (eCall m_need_cords (aVal (eVar 0) aNil))) (sSeq (sExpr (eCall m_need_figure (aVal (eVar 0) (aVal (eVar 1) aNil)))) (sRet (eCall m_many_rings (aVal (eVar 0) (aVal (eVar 1) aNil))))))
def m_ring_pieces : List Slot → Tr D := fnF 2 .v (sSeq (sExpr (eCall m_need_cords (aVal (eVar 0) aNil))) (sSeq (sExpr (eCall m_need_figure (aVal (eVar 0) (aVal (eVar 1) aNil)))) (sRet (eCall m_points_by_piece (aVal (eCall m_closed_places (aVal (eVar 0) (aVal (eVar 1) aNil))) aNil)))))
def m_row_rings : List Slot → Tr D := fnF 2 .v (sRet (e2 dAddA (eCall m_many_rings (aVal (eVar 0) (aVal (eCall m_figure_of (aVal (eVar 0) (aVal (eVar 1) aNil))) aNil))) (eCall m_leftovers_of (aVal (eVar 0) (aVal (eVar 1) aNil)))))
def m_rings_of_both : List Slot → Tr D := fnF 5 .v (sSeq (sExpr (eCall m_need_two_figures (aVal (eVar 0) (aVal (eVar 1) (aVal (eVar 2) aNil))))) (sSeq (sAsg (eCall m_put_together (aVal (eVar 0) (aVal (eVar 1) (aVal (eVar 2) aNil)))) (gT 2 (gsCons (gN 3) (gsCons (gN 4) gsNil)))) (sRet (e2 dAddA (eCall m_many_rings (aVal (eVar 0) (aVal (eVar 3) aNil))) (eVar 4)))))
def m_law_of : List Slot → Tr D := fnF 2 .v (sRet (e2 dIx (eVar 1) (eCall m_law_draw (aOrc 0 (aVal (eCB dLenA (lCons (eVar 1) lNil)) aNil)))))
def m_law_like : List Slot → Tr D := fnF 2 .v (sRet (e2 dEq (eCB dRepr (lCons (eVar 0) lNil)) (eCB dRepr (lCons (eVar 1) lNil))))
def m_law_named : List Slot → Tr D := fnF 4 .v (sSeq (sPar true true 2 3 (eLst lNil) (eLst lNil)) (sSeq (sForS (eVar 0) (gN 1) (sSeq (sIf (tt (e2 (dIn true) (eVar 1) (eVarB 2))) (sApp 2 (eVar 1)) sNext) (sApp 3 (eIdx (eVarB 2) (eVar 1))))) (sRet (eCB dTuple (lCons (eVarB 3) lNil)))))
def m_law_straight : List Slot → Tr D := fnF 1 .v (sRet (eCB dTuple (lCons (e2 dMulA (eRgL (lCons (eVar 0) lNil)) (eC (.int 2))) lNil)))
def m_law_deed : List Slot → Tr D := fnF 5 .v (sSeq (sAsg (eVar 1) (gT 2 (gsCons (gN 3) (gsCons (gN 4) gsNil)))) (sSeq (sSetO 2 (e2 dCat (eRgL (lCons (eVar 0) lNil)) (eRgL (lCons (eVar 0) lNil)))) (sSeq (sIf (tt (e2 dEq (eVar 3) (eC (.str "cut")))) (sSetIx 2 (e2 dAddA (eVar 0) (eVar 4)) (eVar 0)) (sIf (tt (e2 dEq (eVar 3) (eC (.str "hook")))) (sSeq (sSetIx 2 (e2 dAddA (eVar 4) (eC (.int 1))) (eVar 4)) (sSeq (sSetIx 2 (e2 dAddA (eVar 0) (eVar 4)) (eVar 0)) (sSetIx 2 (e2 dAddA (e2 dAddA (eVar 0) (eVar 4)) (eC (.int 1))) (eVar 0)))) (sIf (tt (e2 dEq (eVar 3) (eC (.str "swap")))) (sSetIx2 2 (eTup (lCons (e2 dAddA (eVar 4) (eC (.int 1))) (lCons (eVar 4) lNil))) (e2 dAddA (eVar 0) (eVar 4)) (e2 dAddA (e2 dAddA (eVar 0) (eVar 4)) (eC (.int 1)))) (sSeq (sSetIx 2 (e2 dAddA (eVar 4) (eC (.int 1))) (eVar 4)) (sSeq (sSetIx 2 (e2 dAddA (eVar 0) (eVar 4)) (eVar 4)) (sSetIx 2 (e2 dAddA (e2 dAddA (eVar 0) (eVar 4)) (eC (.int 1))) (eVar 4))))))) (fun env => (sRet (eCall m_law_named (aVal (eVar 2) aNil))) (frz 2 env)))))
def m_law_upon : List Slot → Tr D := fnF 11 .v (sSeq (sSet 3 (e2 dAddA (eCompS (eVar 1) (gN 10) fYes (eVar 10) [10]) (eCompS (eVar 2) (gN 10) fYes (e2 dAddA (e2 dMul (eC (.int 2)) (eVar 0)) (eVar 10)) [10]))) (sSeq (sForR (lCons (eVar 0) lNil) (gN 4) (sSeq (sAsg (eTup (lCons (e2 dIx (eVar 3) (e2 dAddA (e2 dMul (eC (.int 2)) (eVar 0)) (eVar 4))) (lCons (e2 dIx (eVar 3) (e2 dAddA (eVar 0) (eVar 4))) lNil))) (gT 2 (gsCons (gN 8) (gsCons (gN 9) gsNil)))) (sIf (tt (e2 dNe (eVar 8) (eVar 9))) (sSet 3 (eCompS (eVar 3) (gN 10) fYes (eIf (tt (e2 dEq (eVar 10) (eVar 8))) (eVar 9) (eVar 10)) [10])) sNext))) (sSeq (sSet 5 (e2 dAddA (eSl dSlA (eVar 3) oNone (oSome (eVar 0))) (eSl dSlA (eVar 3) (oSome (e2 dMul (eC (.int 3)) (eVar 0))) oNone))) (sSeq (sSet 6 (eCompS (eSl dSlA (eVar 3) (oSome (eVar 0)) (oSome (e2 dMul (eC (.int 2)) (eVar 0)))) (gN 10) (tt (e2 (dIn true) (eVar 10) (eVar 5))) (eVar 10) [10])) (sSeq (sSet 7 (eCompR (lCons (eCB dLenA (lCons (eVar 6) lNil)) lNil) (gN 4) (tt (e2 (dIn true) (e2 dIx (eVar 6) (eVar 4)) (eSl dSlA (eVar 6) oNone (oSome (eVar 4))))) (e2 dIx (eVar 6) (eVar 4)) [4])) (sRet (eTup (lCons (eCall m_law_named (aVal (eVar 5) aNil)) (lCons (eCB dLenA (lCons (eVar 7) lNil)) lNil)))))))))
def m_law_figure : List Slot → Tr D := fnF 6 .v (sSeq (sPar false false 3 4 (eCall m_law_straight (aVal (eVar 0) aNil)) (eC (.int 0))) (sSeq (sForS (eVar 1) (gN 2) (sSeq (sAsg (eCall m_law_upon (aVal (eVar 0) (aVal (eVar 3) (aVal (eCall m_law_deed (aVal (eVar 0) (aVal (eVar 2) aNil))) aNil)))) (gT 2 (gsCons (gN 3) (gsCons (gN 5) gsNil)))) (sSet 4 (e2 dAddA (eVar 4) (eVar 5))))) (sRet (eTup (lCons (eVar 3) (lCons (eVar 4) lNil))))))
def m_law_over : List Slot → Tr D := fnF 2 .v (sRet (eCall m_law_named (aVal (e2 dAddA (eSl dSlA (eVar 1) (oSome (eVar 0)) oNone) (eSl dSlA (eVar 1) oNone (oSome (eVar 0)))) aNil)))
def m_law_deeds : List Slot → Tr D := fnF 5 .v (sSeq (sSet 2 (eLst lNil)) (sSeq (sForS (eVar 1) (gN 3) (sSet 2 (e2 dAddA (eVar 2) (eCompR (lCons (e2 dSub (eVar 0) (eCB dInt1 (lCons (e2 dNe (eVar 3) (eC (.str "cut"))) lNil))) lNil) (gN 4) fYes (eTup (lCons (eVar 3) (lCons (eVar 4) lNil))) [4])))) (sRet (eVar 2))))
def m_law_row : List Slot → Tr D := fnF 6 .v (sSeq (sSet 4 (eCall m_law_deeds (aVal (eVar 1) (aVal (eVar 2) aNil)))) (sSeq (sIf (tt (e2 dEq (eVar 4) (eLst lNil))) (sRet (eTup lNil)) sNext) (sRet (eCB dTuple (lCons (eCompR (lCons (eCall m_law_draw (aOrc 0 (aVal (e2 dAddA (eVar 3) (eC (.int 1))) aNil))) lNil) (gN 5) fYes (eCall m_law_of (aOrc 0 (aVal (eVar 4) aNil))) [5]) lNil)))))
def m_law_some_family : List Slot → Tr D := fnF 3 .v (sSeq (sSet 1 (eCompS (eTup (lCons (eC (.str "cut")) (lCons (eC (.str "hook")) (lCons (eC (.str "join")) (lCons (eC (.str "swap")) lNil))))) (gN 2) (tt (e2 dEq (eCall m_law_draw (aOrc 0 (aVal (eC (.int 2)) aNil))) (eC (.int 0)))) (eVar 2) [2])) (sRet (eIf (tt (e2 dNe (eVar 1) (eLst lNil))) (eCB dTuple (lCons (eVar 1) lNil)) (eTup (lCons (eCall m_law_of (aOrc 0 (aVal (eLst (lCons (eC (.str "cut")) (lCons (eC (.str "hook")) (lCons (eC (.str "join")) (lCons (eC (.str "swap")) lNil))))) aNil))) lNil)))))
def m_law_some_figure : List Slot → Tr D := fnF 3 .v (sRet (eCall m_law_named (aVal (eCompR (lCons (e2 dMul (eC (.int 2)) (eVar 1)) lNil) (gN 2) fYes (eCall m_law_draw (aOrc 0 (aVal (e2 dAddA (eC (.int 1)) (e2 dMul (eC (.int 2)) (eVar 1))) aNil))) [2]) aNil)))
def m_law_ring_pieces : List Slot → Tr D := fnF 9 .v (sSeq (sSet 2 (eCB dList (lCons (eVar 1) lNil))) (sSeq (sForR (lCons (eVar 0) lNil) (gN 3) (sSeq (sAsg (eTup (lCons (e2 dIx (eVar 2) (e2 dAddA (eVar 0) (eVar 3))) (lCons (e2 dIx (eVar 2) (eVar 3)) lNil))) (gT 2 (gsCons (gN 5) (gsCons (gN 6) gsNil)))) (sSet 2 (eCompS (eVar 2) (gN 7) fYes (eIf (tt (e2 dEq (eVar 7) (eVar 5))) (eVar 6) (eVar 7)) [7])))) (sSeq (sSetO 4 (eLst lNil)) (sSeq (sForR (lCons (eVar 0) lNil) (gN 3) (sIf (tt (e2 (dIn true) (e2 dIx (eVar 2) (eVar 3)) (eSl dSlA (eVar 2) oNone (oSome (eVar 3))))) (sApp 4 (eCB dTuple (lCons (eCompR (lCons (eVar 0) lNil) (gN 8) (tt (e2 dEq (e2 dIx (eVar 2) (eVar 8)) (e2 dIx (eVar 2) (eVar 3)))) (eVar 8) [8]) lNil))) sNext)) (sRet (eCB dTuple (lCons (eVarB 4) lNil)))))))
def m_law_mirrored : List Slot → Tr D := fnF 2 .v (sRet (eCall m_law_named (aVal (e2 dAddA (eRev (eSl dSlA (eVar 1) oNone (oSome (eVar 0)))) (eRev (eSl dSlA (eVar 1) (oSome (eVar 0)) oNone))) aNil)))
end FL
end
section
set_option linter.all false
set_option maxRecDepth 100000
/-! What the mirrors come to, over lists of numbers. -/
namespace FL
open PySem PySem.Spec PyProof.Rows L2 DL FM
theorem v_between (x a b : Int) : m_is_between [.val (.int x), .val (.int a), .val (.int b)] = .ret (.bool (decide (a ≤ x) && decide (x ≤ b))) := by
  simp only [m_is_between, fnF, startE, sSeq, sSet, sSetO, sRet, sExpr, sIf, sNext, sAsg, sForR, sForS, sForE, e2, eC, eVar, eVarB, eCB, eCall, aVal, aNil, lCons, lNil, eTup, eLst, eIf, eTy, fTy, eSl, oNone, oSome, eChain, vAnd, vOr, vNot, bNot, bAnd, bOr, tt, fTru, gN, gT, gsCons, gsNil, bret, ofS, Tr.ofOpt, List.map_cons, List.map_nil, List.length_cons, List.length_nil, List.cons_append, List.nil_append, List.replicate_succ, List.replicate_zero, List.getElem?_cons_zero, List.getElem?_cons_succ, List.set_cons_zero, List.set_cons_succ, Option.bind_some, Option.map_some, if_true, tyName, Nat.reduceSub, Nat.reduceAdd, List.replicate]
  by_cases h : a ≤ x <;> simp [dInt, h, bret, ofS, Tr.ofOpt]
theorem v_need_cords {c : Nat} (h1 : 1 ≤ c) (h5 : c ≤ 5) : m_need_cords [.val (nI c)] = .ret .none := by
  have e : m_is_between [.val (nI c), .val (.int 1), .val (.int 5)] = .ret (.bool true) := by
    unfold nI
    rw [v_between, decide_eq_true (show (1 : Int) ≤ (c : Int) by omega), decide_eq_true (show (c : Int) ≤ 5 by omega)]
    rfl
  simp only [m_need_cords, fnF, startE, sSeq, sSet, sSetO, sRet, sExpr, sIf, sNext, sAsg, sForR, sForS, sForE, e2, eC, eVar, eVarB, eCB, eCall, aVal, aNil, lCons, lNil, eTup, eLst, eIf, eTy, fTy, eSl, oNone, oSome, eChain, vAnd, vOr, vNot, bNot, bAnd, bOr, tt, fTru, gN, gT, gsCons, gsNil, bret, ofS, Tr.ofOpt, List.map_cons, List.map_nil, List.length_cons, List.length_nil, List.cons_append, List.nil_append, List.replicate_succ, List.replicate_zero, List.getElem?_cons_zero, List.getElem?_cons_succ, List.set_cons_zero, List.set_cons_succ, Option.bind_some, Option.map_some, if_true, tyName, Nat.reduceSub, Nat.reduceAdd, List.replicate, e]
  rfl
theorem lt1000 {n : Nat} (h : n < 1000) : n < sizeLine := small1000 (by omega)
theorem ren_len {α : Type} [DecidableEq α] (s : List α × List Nat) (x : α) : (ren1 s x).2.length = s.2.length + 1 ∧ (ren1 s x).1.length ≤ s.1.length + 1 := by
  unfold ren1
  refine ⟨by simp, ?_⟩
  dsimp only
  split
  · omega
  · simp
theorem ren_at {α : Type} [DecidableEq α] (s : List α × List Nat) (x : α) : x ∈ (ren1 s x).1 ∧ (ren1 s x).2 = s.2 ++ [(ren1 s x).1.idxOf x] := by
  unfold ren1
  refine ⟨?_, rfl⟩
  dsimp only
  split
  · assumption
  · simp
theorem v_renumbered_any {src : D} {xs : List Nat} (hs : itemsOf src = some (nL xs)) (hl : xs.length ≤ 900) : m_renumbered [.val src] = .ret (fD (renum xs)) := by
  have key : ∀ i (s : List Nat × List Nat) x env, xs[i]? = some x → (∃ d3, env = [some (.val src), some (.own (.dict (dz s.1 0))), some (.own (.list (nL s.2))), d3] ∧ s.2.length = i ∧ s.1.length ≤ i) →
      ∃ env1 env2, gN 3 (nI x) env = some env1 ∧ (sSeq (sIf (tt (eDIn true 1 (eVar 3))) (sDPutD 1 (eVar 3) (eDLen 1)) sNext) (sApp 2 (eDGet 1 (eVar 3)))) env1 = .ret (.nx env2) ∧ ∃ d3, env2 = [some (.val src), some (.own (.dict (dz (ren1 s x).1 0))), some (.own (.list (nL (ren1 s x).2))), d3] ∧ (ren1 s x).2.length = i + 1 ∧ (ren1 s x).1.length ≤ i + 1 := by
    rintro i ⟨S, F⟩ x env hx ⟨d3, e, hz, hw⟩
    have hi : i < xs.length := by
      obtain ⟨z, _⟩ := List.getElem?_eq_some_iff.mp hx
      exact z
    dsimp only at e hz hw
    subst e
    have a := ren_at (S, F) x
    have b := ren_len (S, F) x
    dsimp only at b a
    refine ⟨[some (.val src), some (.own (.dict (dz S 0))), some (.own (.list (nL F))), some (.val (nI x))], [some (.val src), some (.own (.dict (dz (ren1 (S, F) x).1 0))), some (.own (.list (nL (ren1 (S, F) x).2))), some (.val (nI x))], rfl, ?_, _, rfl, by omega, by omega⟩
    have g : DL.getD (dz (ren1 (S, F) x).1 0) (.inl (x : Int)) = some (nI ((ren1 (S, F) x).1.idxOf x)) := by
      rw [dz_get, if_pos a.1, Nat.zero_add]
    have f2 : nL F ++ [nI ((ren1 (S, F) x).1.idxOf x)] = nL (ren1 (S, F) x).2 := by
      rw [a.2]
      unfold nL
      rw [List.map_append]
      rfl
    have fl : (nL F).length < sizeLine := by rw [nL_len]; exact lt1000 (by omega)
    by_cases z : x ∈ S
    · have e1 : (ren1 (S, F) x).1 = S := if_pos z
      rw [e1] at g f2 ⊢
      simp only [fnF, startE, sSeq, sSet, sSetO, sRet, sExpr, sIf, sNext, sAsg, sForR, sForS, sForE, e2, eC, eVar, eVarB, eCB, eCall, aVal, aNil, lCons, lNil, eTup, eLst, eIf, eTy, fTy, eSl, oNone, oSome, eChain, vAnd, vOr, vNot, bNot, bAnd, bOr, tt, fTru, gN, gT, gsCons, gsNil, bret, ofS, Tr.ofOpt, List.map_cons, List.map_nil, List.length_cons, List.length_nil, List.cons_append, List.nil_append, List.replicate_succ, List.replicate_zero, List.getElem?_cons_zero, List.getElem?_cons_succ, List.set_cons_zero, List.set_cons_succ, Option.bind_some, Option.map_some, if_true, tyName, Nat.reduceSub, Nat.reduceAdd, List.replicate, eDIn, keyOf_n, dz_get, z, Nat.zero_add, sApp, eDGet, Option.isSome_some, Bool.not_true, Bool.false_eq_true, if_false, fl, f2]
    · have e1 : (ren1 (S, F) x).1 = S ++ [x] := if_neg z
      rw [e1] at g f2 ⊢
      have p := dz_put z
      have dl : (dz S 0).length < sizeLine := by rw [dz_len]; exact lt1000 (by omega)
      have p2 : putD (dz S 0) (.inl (x : Int)) (.int ((dz S 0).length : Nat)) = dz (S ++ [x]) 0 := by
        rw [dz_len]
        exact p
      simp only [fnF, startE, sSeq, sSet, sSetO, sRet, sExpr, sIf, sNext, sAsg, sForR, sForS, sForE, e2, eC, eVar, eVarB, eCB, eCall, aVal, aNil, lCons, lNil, eTup, eLst, eIf, eTy, fTy, eSl, oNone, oSome, eChain, vAnd, vOr, vNot, bNot, bAnd, bOr, tt, fTru, gN, gT, gsCons, gsNil, bret, ofS, Tr.ofOpt, List.map_cons, List.map_nil, List.length_cons, List.length_nil, List.cons_append, List.nil_append, List.replicate_succ, List.replicate_zero, List.getElem?_cons_zero, List.getElem?_cons_succ, List.set_cons_zero, List.set_cons_succ, Option.bind_some, Option.map_some, if_true, tyName, Nat.reduceSub, Nat.reduceAdd, List.replicate, eDIn, keyOf_n, dz_get, z, Nat.zero_add, sApp, eDGet, sDPutD, eDLen, Option.isSome_none, Bool.not_false, if_false, fl, f2, dl, p2, List.mem_append, List.mem_singleton, or_true, g]
  obtain ⟨env', h1, d3, e, hz, hw⟩ := for_all (tgt := gN 3) (dd := nI) _ ren1 (xs := xs) (s := (([], []) : List Nat × List Nat)) (env := [some (.val src), some (.own (.dict [])), some (.own (.list [])), none]) ⟨none, rfl, rfl, Nat.le_refl _⟩ key
  have h1' : forD (gN 3) (sSeq (sIf (tt (eDIn true 1 (eVar 3))) (sDPutD 1 (eVar 3) (eDLen 1)) sNext) (sApp 2 (eDGet 1 (eVar 3)))) (nL xs) [some (.val src), some (.own (.dict [])), some (.own (.list [])), none] = .ret (.nx env') := h1
  have hb : ∀ env, env = [some (.val src), some (.own (.dict [])), some (.own (.list [])), none] → sForS (eVar 0) (gN 3) (sSeq (sIf (tt (eDIn true 1 (eVar 3))) (sDPutD 1 (eVar 3) (eDLen 1)) sNext) (sApp 2 (eDGet 1 (eVar 3)))) env = .ret (.nx env') := fun env e => by
    subst e
    unfold sForS
    simp only [eVar, List.getElem?_cons_zero, bret, hs]
    exact h1'
  unfold m_renumbered fnF
  have s0 : (sSeq (sSetO 1 eDNew) (sSeq (sSetO 2 (eLst lNil)) (sSeq (sForS (eVar 0) (gN 3) (sSeq (sIf (tt (eDIn true 1 (eVar 3))) (sDPutD 1 (eVar 3) (eDLen 1)) sNext) (sApp 2 (eDGet 1 (eVar 3))))) (sRet (eCB dTuple (lCons (eVarB 2) lNil)))))) (startE 4 [.val src]) = .ret (.rv (fD (renum xs))) := by
    have a1 : sSetO 1 eDNew (startE 4 [.val src]) = .ret (.nx [some (.val src), some (.own (.dict [])), none, none]) := rfl
    have a2 : sSetO 2 (eLst lNil) [some (.val src), some (.own (.dict [])), none, none] = .ret (.nx [some (.val src), some (.own (.dict [])), some (.own (.list [])), none]) := rfl
    unfold sSeq at hb ⊢
    rw [a1]
    simp only [bret]
    rw [a2]
    simp only [bret]
    rw [hb _ rfl]
    simp only [bret, e]
    rfl
  rw [s0]
  rfl
end FL
end
section
set_option linter.all false
set_option maxRecDepth 100000
namespace FL
open PySem PySem.Spec PyProof.Rows L2 DL FM
theorem v_renumbered {xs : List Nat} (hl : xs.length ≤ 900) : m_renumbered [.val (lD xs)] = .ret (fD (renum xs)) := v_renumbered_any rfl hl
theorem v_renumberedT {xs : List Nat} (hl : xs.length ≤ 900) : m_renumbered [.val (fD xs)] = .ret (fD (renum xs)) := v_renumbered_any rfl hl
/-! ### the law's numbering -/
abbrev bNamed : FS := sSeq (sIf (tt (e2 (dIn true) (eVar 1) (eVarB 2))) (sApp 2 (eVar 1)) sNext) (sApp 3 (eIdx (eVarB 2) (eVar 1)))
theorem v_named_any {src : D} {xs : List Nat} (hs : itemsOf src = some (nL xs)) (hl : xs.length ≤ 900) : m_law_named [.val src] = .ret (fD (renum xs)) := by
  have key : ∀ i (s : List Nat × List Nat) x env, xs[i]? = some x → (∃ d3, env = [some (.val src), d3, some (.own (.list (nL s.1))), some (.own (.list (nL s.2)))] ∧ s.2.length = i ∧ s.1.length ≤ i) →
      ∃ env1 env2, gN 1 (nI x) env = some env1 ∧ bNamed env1 = .ret (.nx env2) ∧ ∃ d3, env2 = [some (.val src), d3, some (.own (.list (nL (ren1 s x).1))), some (.own (.list (nL (ren1 s x).2)))] ∧ (ren1 s x).2.length = i + 1 ∧ (ren1 s x).1.length ≤ i + 1 := by
    rintro i ⟨S, F⟩ x env hx ⟨d3, e, hz, hw⟩
    have hi : i < xs.length := by
      obtain ⟨z, _⟩ := List.getElem?_eq_some_iff.mp hx
      exact z
    dsimp only at e hz hw
    subst e
    have a := ren_at (S, F) x
    have b := ren_len (S, F) x
    dsimp only at b a
    refine ⟨[some (.val src), some (.val (nI x)), some (.own (.list (nL S))), some (.own (.list (nL F)))], [some (.val src), some (.val (nI x)), some (.own (.list (nL (ren1 (S, F) x).1))), some (.own (.list (nL (ren1 (S, F) x).2)))], rfl, ?_, _, rfl, by omega, by omega⟩
    have g : dIdx (nL (ren1 (S, F) x).1) (nI x) = some (nI ((ren1 (S, F) x).1.idxOf x)) := dIdx_n a.1
    have f2 : nL F ++ [nI ((ren1 (S, F) x).1.idxOf x)] = nL (ren1 (S, F) x).2 := by
      rw [a.2]
      unfold nL
      rw [List.map_append]
      rfl
    have fl : (nL F).length < sizeLine := by rw [nL_len]; exact lt1000 (by omega)
    have sl : (nL S).length < sizeLine := by rw [nL_len]; exact lt1000 (by omega)
    by_cases z : x ∈ S
    · have e1 : (ren1 (S, F) x).1 = S := if_pos z
      rw [e1] at g f2 ⊢
      simp only [bNamed, fnF, startE, sSeq, sSet, sSetO, sRet, sExpr, sIf, sNext, sAsg, sForR, sForS, sForE, e2, eC, eVar, eVarB, eCB, eCall, aVal, aNil, lCons, lNil, eTup, eLst, eIf, eTy, fTy, eSl, oNone, oSome, eChain, vAnd, vOr, vNot, bNot, bAnd, bOr, tt, fTru, gN, gT, gsCons, gsNil, bret, ofS, Tr.ofOpt, List.map_cons, List.map_nil, List.length_cons, List.length_nil, List.cons_append, List.nil_append, List.replicate_succ, List.replicate_zero, List.getElem?_cons_zero, List.getElem?_cons_succ, List.set_cons_zero, List.set_cons_succ, Option.bind_some, Option.map_some, if_true, tyName, Nat.reduceSub, Nat.reduceAdd, List.replicate, dIn_n, z, sApp, eIdx, decide_true, Bool.not_true, Bool.false_eq_true, if_false, fl, f2, g]
    · have e1 : (ren1 (S, F) x).1 = S ++ [x] := if_neg z
      rw [e1] at g f2 ⊢
      have sn : nL S ++ [nI x] = nL (S ++ [x]) := by unfold nL; rw [List.map_append]; rfl
      simp only [bNamed, fnF, startE, sSeq, sSet, sSetO, sRet, sExpr, sIf, sNext, sAsg, sForR, sForS, sForE, e2, eC, eVar, eVarB, eCB, eCall, aVal, aNil, lCons, lNil, eTup, eLst, eIf, eTy, fTy, eSl, oNone, oSome, eChain, vAnd, vOr, vNot, bNot, bAnd, bOr, tt, fTru, gN, gT, gsCons, gsNil, bret, ofS, Tr.ofOpt, List.map_cons, List.map_nil, List.length_cons, List.length_nil, List.cons_append, List.nil_append, List.replicate_succ, List.replicate_zero, List.getElem?_cons_zero, List.getElem?_cons_succ, List.set_cons_zero, List.set_cons_succ, Option.bind_some, Option.map_some, if_true, tyName, Nat.reduceSub, Nat.reduceAdd, List.replicate, dIn_n, z, sApp, eIdx, decide_false, Bool.not_false, if_false, fl, sl, f2, g, sn]
  obtain ⟨env', h1, d3, e, hz, hw⟩ := for_all (tgt := gN 1) (dd := nI) _ ren1 (xs := xs) (s := (([], []) : List Nat × List Nat)) (env := [some (.val src), none, some (.own (.list [])), some (.own (.list []))]) ⟨none, rfl, rfl, Nat.le_refl _⟩ key
  have h1' : forD (gN 1) bNamed (nL xs) [some (.val src), none, some (.own (.list [])), some (.own (.list []))] = .ret (.nx env') := h1
  have hb : ∀ env, env = [some (.val src), none, some (.own (.list [])), some (.own (.list []))] → sForS (eVar 0) (gN 1) bNamed env = .ret (.nx env') := fun env e => by
    subst e
    unfold sForS
    simp only [eVar, List.getElem?_cons_zero, bret, hs]
    exact h1'
  have a1 : sPar true true 2 3 (eLst lNil) (eLst lNil) (startE 4 [.val src]) = .ret (.nx [some (.val src), none, some (.own (.list [])), some (.own (.list []))]) := rfl
  unfold m_law_named fnF
  have s0 : (sSeq (sPar true true 2 3 (eLst lNil) (eLst lNil)) (sSeq (sForS (eVar 0) (gN 1) bNamed) (sRet (eCB dTuple (lCons (eVarB 3) lNil))))) (startE 4 [.val src]) = .ret (.rv (fD (renum xs))) := by
    unfold sSeq at hb ⊢
    rw [a1]
    simp only [bret]
    rw [hb _ rfl]
    simp only [bret, e]
    rfl
  have s1 := s0
  rw [s1]
  rfl
theorem v_named {xs : List Nat} (hl : xs.length ≤ 900) : m_law_named [.val (lD xs)] = .ret (fD (renum xs)) := v_named_any rfl hl
theorem v_namedT {xs : List Nat} (hl : xs.length ≤ 900) : m_law_named [.val (fD xs)] = .ret (fD (renum xs)) := v_named_any rfl hl
def merL (xs : List Nat) (a b : Nat) : List Nat := xs.map fun v => if v = b then a else v
theorem merL_same (xs : List Nat) (a : Nat) : merL xs a a = xs := by
  unfold merL
  refine Eq.trans (List.map_congr_left (g := id) fun v _ => ?_) (List.map_id _)
  by_cases h : v = a <;> simp [h]
theorem merL_len (xs : List Nat) (a b : Nat) : (merL xs a b).length = xs.length := List.length_map ..
theorem nI_eq {a b : Nat} : dEq (nI a) (nI b) = some (.bool (decide (a = b))) := by
  unfold nI
  rw [dEq_int]
  congr 2
  by_cases h : a = b
  · simp [h]
  · have : ¬ ((a : Int) = (b : Int)) := by omega
    simp [h, this]
theorem nI_ne {a b : Nat} : dNe (nI a) (nI b) = some (.bool (!decide (a = b))) := by
  unfold nI
  rw [dNe_int]
  congr 2
  by_cases h : a = b
  · simp [h]
  · have : ¬ ((a : Int) = (b : Int)) := by omega
    simp [h, this]
theorem nI_add {a b : Nat} : dAddA (nI a) (nI b) = some (nI (a + b)) := by
  unfold nI
  rw [dAddA_i]
  congr 2
/-- [new if one == old else one for one in marks] at the slot i, old at the slot j, new at the slot k -/
theorem mer_comp {env : Ev} {i j k a b : Nat} {xs : List Nat} (hl : xs.length ≤ 900) (hij : i ≠ j) (hik : i ≠ k) (hi : i < env.length) (hj : env[j]? = some (some (.val (nI b)))) (hk : env[k]? = some (some (.val (nI a)))) :
    endComp (gN i) fYes (eIf (tt (e2 dEq (eVar i) (eVar j))) (eVar k) (eVar i)) env (nL xs) = .ret (lD (merL xs a b)) := by
  unfold lD nL merL
  rw [List.map_map]
  refine end_all (dd := nI) (by omega) fun x _ => ⟨env.set i (some (.val (nI x))), rfl, rfl, ?_⟩
  have e1 : (env.set i (some (Slot.val (nI x))))[i]? = some (some (.val (nI x))) := List.getElem?_set_self hi
  have e2' : (env.set i (some (Slot.val (nI x))))[j]? = some (some (.val (nI b))) := by rw [List.getElem?_set_ne hij]; exact hj
  have e3 : (env.set i (some (Slot.val (nI x))))[k]? = some (some (.val (nI a))) := by rw [List.getElem?_set_ne hik]; exact hk
  simp only [eIf, tt, e2, eVar, e1, e2', e3, bret, nI_eq, ofS]
  by_cases z : x = b
  · simp [z]
  · simp [z]
theorem v_merged {xs : List Nat} {a b : Nat} (hl : xs.length ≤ 900) : m_merged [.val (lD xs), .val (nI a), .val (nI b)] = .ret (lD (merL xs a b)) := by
  have h := mer_comp (env := [some (.val (lD xs)), some (.val (nI a)), some (.val (nI b)), none]) (i := 3) (j := 2) (k := 1) (a := a) (b := b) hl (by decide) (by decide) (Nat.lt_succ_self 3) rfl rfl
  have h2 : eCompS (eVar 0) (gN 3) fYes (eIf (tt (e2 dEq (eVar 3) (eVar 2))) (eVar 1) (eVar 3)) [3] (startE 4 [.val (lD xs), .val (nI a), .val (nI b)]) = .ret (lD (merL xs a b)) := h
  unfold m_merged fnF sRet
  rw [h2]
  rfl
/-! ### a valid figure -/
theorem val_step {xs : List Nat} (hv : renum xs = xs) {i x : Nat} (hx : xs[i]? = some x) : (x ∈ ((xs.take i).foldl ren1 (([] : List Nat), [])).1 → x < ((xs.take i).foldl ren1 (([] : List Nat), [])).1.length) ∧ (x ∉ ((xs.take i).foldl ren1 (([] : List Nat), [])).1 → x = ((xs.take i).foldl ren1 (([] : List Nat), [])).1.length) := by
  obtain ⟨T, h1, h2, h3⟩ := ren_run (xs.take i) [] [] List.nodup_nil
  rw [List.nil_append, List.nil_append] at h1
  rw [List.nil_append] at h2 h3
  rw [h1]
  dsimp only
  have hi : i < xs.length := (List.getElem?_eq_some_iff.mp hx).1
  have split : xs = xs.take i ++ x :: xs.drop (i + 1) := by
    have e := List.take_append_drop i xs
    rw [List.drop_eq_getElem_cons hi] at e
    rw [List.getElem?_eq_getElem hi] at hx
    rw [Option.some.inj hx] at e
    exact e.symm
  have hr : xs.foldl ren1 (([] : List Nat), []) = (xs.drop (i + 1)).foldl ren1 (ren1 (T, (xs.take i).map fun x => T.idxOf x) x) := by
    conv => lhs; rw [split]
    rw [List.foldl_append, h1, List.foldl_cons]
  have e2 : renum xs = ((xs.drop (i + 1)).foldl ren1 (ren1 (T, (xs.take i).map fun x => T.idxOf x) x)).2 := congrArg Prod.snd hr
  obtain ⟨U, u1, u2, u3⟩ := ren_run (xs.drop (i + 1)) (ren1 (T, (xs.take i).map fun x => T.idxOf x) x).1 (ren1 (T, (xs.take i).map fun x => T.idxOf x) x).2 (by
    unfold ren1
    dsimp only
    split
    · exact h2
    · rename_i hn
      rw [List.nodup_append]
      exact ⟨h2, by simp, fun a ha b hb e => hn (by rw [List.mem_singleton.mp hb] at e; rw [← e]; exact ha)⟩)
  have e3 : renum xs = (ren1 (T, (xs.take i).map fun x => T.idxOf x) x).2 ++ (xs.drop (i + 1)).map fun y => ((ren1 (T, (xs.take i).map fun x => T.idxOf x) x).1 ++ U).idxOf y := by
    rw [e2]
    exact congrArg Prod.snd u1
  have e4 : (renum xs)[i]? = some ((ren1 (T, (xs.take i).map fun x => T.idxOf x) x).1.idxOf x) := by
    rw [e3]
    have el : ((xs.take i).map fun x => T.idxOf x).length = i := by simp; omega
    have : (ren1 (T, (xs.take i).map fun x => T.idxOf x) x).2 = ((xs.take i).map fun x => T.idxOf x) ++ [(ren1 (T, (xs.take i).map fun x => T.idxOf x) x).1.idxOf x] := rfl
    rw [this, List.append_assoc, List.getElem?_append_right (by omega), el, Nat.sub_self]
    rfl
  rw [hv, hx] at e4
  have e5 : x = (ren1 (T, (xs.take i).map fun x => T.idxOf x) x).1.idxOf x := Option.some.inj e4
  unfold ren1 at e5
  dsimp only at e5
  refine ⟨fun hm => ?_, fun hm => ?_⟩
  · rw [if_pos hm] at e5
    rw [e5]
    exact List.idxOf_lt_length_of_mem hm
  · rw [if_neg hm, List.idxOf_append, if_neg hm] at e5
    rw [e5]
    simp
end FL
end
section
set_option linter.all false
set_option maxRecDepth 100000
namespace FL
open PySem PySem.Spec PyProof.Rows L2 DL FM
abbrev bWrong : FS := sSeq (sIf (bNot (tt (eCall m_is_between (aVal (eVar 3) (aVal (eC (.int 0)) (aVal (eVar 1) aNil)))))) (sRet (eVar 2)) sNext) (sIf (tt (e2 dEq (eVar 3) (eVar 1))) (sSet 1 (e2 dAddA (eVar 1) (eC (.int 1)))) sNext)
theorem pairs_map : ∀ (xs : List Nat) (i : Nat), pairsFrom i (nL xs) = (xs.zipIdx i).map fun p => .tuple [nI p.2, nI p.1]
  | [], _ => rfl
  | x :: xs, i => by
    show PyData.tuple [nI i, nI x] :: pairsFrom (i + 1) (nL xs) = _
    rw [pairs_map xs (i + 1)]
    rfl
theorem v_wrong_point {xs : List Nat} (hl : xs.length ≤ 900) (hv : renum xs = xs) : m_wrong_point [.val (fD xs)] = .ret .none := by
  have key : ∀ i (s : List Nat × List Nat) (p : Nat × Nat) env, (xs.zipIdx 0)[i]? = some p → (∃ d2 d3, env = [some (.val (fD xs)), some (.val (nI s.1.length)), d2, d3] ∧ s = (xs.take i).foldl ren1 ([], [])) →
      ∃ env1 env2, gT 2 (gsCons (gN 2) (gsCons (gN 3) gsNil)) (.tuple [nI p.2, nI p.1]) env = some env1 ∧ bWrong env1 = .ret (.nx env2) ∧ ∃ d2 d3, env2 = [some (.val (fD xs)), some (.val (nI (ren1 s p.1).1.length)), d2, d3] ∧ ren1 s p.1 = (xs.take (i + 1)).foldl ren1 ([], []) := by
    rintro i s ⟨x, j⟩ env hp ⟨d2, d3, e, hs⟩
    rw [List.getElem?_zipIdx] at hp
    obtain ⟨x', hx, e2⟩ := Option.map_eq_some_iff.mp hp
    cases e2
    have st := val_step hv hx
    rw [← hs] at st
    subst e
    have nx : ren1 s x = (xs.take (i + 1)).foldl ren1 ([], []) := by
      rw [List.take_succ, List.foldl_append, ← hs, hx]
      rfl
    refine ⟨[some (.val (fD xs)), some (.val (nI s.1.length)), some (.val (nI (0 + i))), some (.val (nI x))], [some (.val (fD xs)), some (.val (nI (ren1 s x).1.length)), some (.val (nI (0 + i))), some (.val (nI x))], rfl, ?_, _, _, rfl, nx⟩
    have btw : m_is_between [.val (nI x), .val (.int 0), .val (nI s.1.length)] = .ret (.bool true) := by
      have hle : x ≤ s.1.length := by
        by_cases z : x ∈ s.1
        · exact Nat.le_of_lt (st.1 z)
        · exact Nat.le_of_eq (st.2 z)
      unfold nI
      rw [v_between, decide_eq_true (show (0 : Int) ≤ (x : Int) by omega), decide_eq_true (show (x : Int) ≤ (s.1.length : Int) by omega)]
      rfl
    by_cases z : x ∈ s.1
    · have e1 : (ren1 s x).1 = s.1 := if_pos z
      have ne : ¬ x = s.1.length := Nat.ne_of_lt (st.1 z)
      rw [e1]
      simp only [bWrong, fnF, startE, sSeq, sSet, sSetO, sRet, sExpr, sIf, sNext, sAsg, sForR, sForS, sForE, e2, eC, eVar, eVarB, eCB, eCall, aVal, aNil, lCons, lNil, eTup, eLst, eIf, eTy, fTy, eSl, oNone, oSome, eChain, vAnd, vOr, vNot, bNot, bAnd, bOr, tt, fTru, gN, gT, gsCons, gsNil, bret, ofS, Tr.ofOpt, List.map_cons, List.map_nil, List.length_cons, List.length_nil, List.cons_append, List.nil_append, List.replicate_succ, List.replicate_zero, List.getElem?_cons_zero, List.getElem?_cons_succ, List.set_cons_zero, List.set_cons_succ, Option.bind_some, Option.map_some, if_true, tyName, Nat.reduceSub, Nat.reduceAdd, List.replicate, btw, Bool.not_true, Bool.false_eq_true, if_false, nI_eq, ne, decide_false]
    · have e1 : (ren1 s x).1 = s.1 ++ [x] := if_neg z
      have eq := st.2 z
      have ad : dAddA (nI s.1.length) (.int 1) = some (nI (s.1.length + 1)) := nI_add (b := 1)
      have dq : dEq (nI x) (nI s.1.length) = some (.bool true) := by rw [nI_eq, decide_eq_true eq]
      rw [e1]
      simp only [bWrong, fnF, startE, sSeq, sSet, sSetO, sRet, sExpr, sIf, sNext, sAsg, sForR, sForS, sForE, e2, eC, eVar, eVarB, eCB, eCall, aVal, aNil, lCons, lNil, eTup, eLst, eIf, eTy, fTy, eSl, oNone, oSome, eChain, vAnd, vOr, vNot, bNot, bAnd, bOr, tt, fTru, gN, gT, gsCons, gsNil, bret, ofS, Tr.ofOpt, List.map_cons, List.map_nil, List.length_cons, List.length_nil, List.cons_append, List.nil_append, List.replicate_succ, List.replicate_zero, List.getElem?_cons_zero, List.getElem?_cons_succ, List.set_cons_zero, List.set_cons_succ, Option.bind_some, Option.map_some, if_true, tyName, Nat.reduceSub, Nat.reduceAdd, List.replicate, btw, Bool.not_true, Bool.false_eq_true, if_false, dq, ad, List.length_append]
  obtain ⟨env', h1, d2, d3, e, hs⟩ := for_all (tgt := gT 2 (gsCons (gN 2) (gsCons (gN 3) gsNil))) (dd := fun p : Nat × Nat => PyData.tuple [nI p.2, nI p.1]) (σ := List Nat × List Nat) _ (fun s p => ren1 s p.1) (xs := xs.zipIdx 0) (s := ([], [])) (env := [some (.val (fD xs)), some (.val (nI 0)), none, none]) ⟨none, none, rfl, rfl⟩ key
  rw [← pairs_map] at h1
  unfold m_wrong_point fnF
  have s0 : (sSeq (sSet 1 (eC (.int 0))) (sSeq (sForE (lCons (eVar 0) lNil) (gT 2 (gsCons (gN 2) (gsCons (gN 3) gsNil))) bWrong) (sRet (eC .none)))) (startE 4 [.val (fD xs)]) = .ret (.rv .none) := by
    have a1 : sSet 1 (eC (.int 0)) (startE 4 [.val (fD xs)]) = .ret (.nx [some (.val (fD xs)), some (.val (nI 0)), none, none]) := rfl
    have a2 : sForE (lCons (eVar 0) lNil) (gT 2 (gsCons (gN 2) (gsCons (gN 3) gsNil))) bWrong [some (.val (fD xs)), some (.val (nI 0)), none, none] = .ret (.nx env') := h1
    unfold sSeq at a2 ⊢
    rw [a1]
    simp only [bret]
    rw [a2]
    rfl
  have s1 := s0
  rw [s1]
  rfl
theorem v_need_figure {c : Nat} {xs : List Nat} (h5 : c ≤ 5) (hv : Val c xs) : m_need_figure [.val (nI c), .val (fD xs)] = .ret .none := by
  have hl := hv.len
  have w := v_wrong_point (xs := xs) (by omega) hv.ren
  have m : dMul (.int 2) (nI c) = some (nI (2 * c)) := by
    unfold nI
    rw [dMul_l (by decide)]
    congr 2
  have ln : dLenA [fD xs] = some (nI (2 * c)) := by
    show some (PyData.int ((nL xs).length : Nat)) = _
    rw [nL_len, hl]
    rfl
  simp only [m_need_figure, fnF, startE, sSeq, sSet, sSetO, sRet, sExpr, sIf, sNext, sAsg, sForR, sForS, sForE, e2, eC, eVar, eVarB, eCB, eCall, aVal, aNil, lCons, lNil, eTup, eLst, eIf, eTy, fTy, eSl, oNone, oSome, eChain, vAnd, vOr, vNot, bNot, bAnd, bOr, tt, fTru, gN, gT, gsCons, gsNil, bret, ofS, Tr.ofOpt, List.map_cons, List.map_nil, List.length_cons, List.length_nil, List.cons_append, List.nil_append, List.replicate_succ, List.replicate_zero, List.getElem?_cons_zero, List.getElem?_cons_succ, List.set_cons_zero, List.set_cons_succ, Option.bind_some, Option.map_some, if_true, tyName, Nat.reduceSub, Nat.reduceAdd, List.replicate, ln, m, nI_ne, decide_true, Bool.not_true, Bool.false_eq_true, if_false, w, dNotN, isNone, if_true]
theorem v_need_two {c : Nat} {xs ys : List Nat} (h1 : 1 ≤ c) (h5 : c ≤ 5) (hx : Val c xs) (hy : Val c ys) : m_need_two_figures [.val (nI c), .val (fD xs), .val (fD ys)] = .ret .none := by
  simp only [m_need_two_figures, fnF, startE, sSeq, sSet, sSetO, sRet, sExpr, sIf, sNext, sAsg, sForR, sForS, sForE, e2, eC, eVar, eVarB, eCB, eCall, aVal, aNil, lCons, lNil, eTup, eLst, eIf, eTy, fTy, eSl, oNone, oSome, eChain, vAnd, vOr, vNot, bNot, bAnd, bOr, tt, fTru, gN, gT, gsCons, gsNil, bret, ofS, Tr.ofOpt, List.map_cons, List.map_nil, List.length_cons, List.length_nil, List.cons_append, List.nil_append, List.replicate_succ, List.replicate_zero, List.getElem?_cons_zero, List.getElem?_cons_succ, List.set_cons_zero, List.set_cons_succ, Option.bind_some, Option.map_some, if_true, tyName, Nat.reduceSub, Nat.reduceAdd, List.replicate, v_need_cords h1 h5, v_need_figure h5 hx, v_need_figure h5 hy]
theorem five {P : Nat → Prop} {c : Nat} (h1 : 1 ≤ c) (h5 : c ≤ 5) (p1 : P 1) (p2 : P 2) (p3 : P 3) (p4 : P 4) (p5 : P 5) : P c := by
  have : c = 1 ∨ c = 2 ∨ c = 3 ∨ c = 4 ∨ c = 5 := by omega
  rcases this with rfl | rfl | rfl | rfl | rfl <;> assumption
theorem v_straight {c : Nat} (h1 : 1 ≤ c) (h5 : c ≤ 5) : m_straight_figure [.val (nI c)] = .ret (fD (stL c)) ∧ m_law_straight [.val (nI c)] = .ret (fD (stL c)) := by
  refine five (P := fun c => m_straight_figure [.val (nI c)] = .ret (fD (stL c)) ∧ m_law_straight [.val (nI c)] = .ret (fD (stL c))) h1 h5 ?_ ?_ ?_ ?_ ?_
  · exact ⟨by with_unfolding_all rfl, by with_unfolding_all rfl⟩
  · exact ⟨by with_unfolding_all rfl, by with_unfolding_all rfl⟩
  · exact ⟨by with_unfolding_all rfl, by with_unfolding_all rfl⟩
  · exact ⟨by with_unfolding_all rfl, by with_unfolding_all rfl⟩
  · exact ⟨by with_unfolding_all rfl, by with_unfolding_all rfl⟩
/-! ### greatest number -/
theorem nums_n : ∀ xs : List Nat, dNums (nL xs) = some (xs.map fun (n : Nat) => (n : Int))
  | [] => rfl
  | x :: xs => by
    show (match intOf (nI x), dNums (nL xs) with | some b, some bs => some (b :: bs) | _, _ => none) = _
    rw [nums_n xs]
    rfl
theorem max1_n {xs : List Nat} {N : Nat} (hN : N ∈ xs) (hm : ∀ x ∈ xs, x ≤ N) : dMax1 [fD xs] = some (nI N) ∧ dMax1 [lD xs] = some (nI N) := by
  have key : (dNums (nL xs)).bind (fun ns => match ns with | [] => none | n :: ns => some (PyData.int (maxI n ns))) = some (nI N) := by
    rw [nums_n]
    cases xs with
    | nil => cases hN
    | cons x xs =>
      rw [List.map_cons]
      show some (PyData.int (maxI (x : Int) (xs.map fun (n : Nat) => (n : Int)))) = _
      have e : (N : Int) = maxI (x : Int) (xs.map fun (n : Nat) => (n : Int)) := max_uniq (by
        rcases List.mem_cons.mp hN with e | h
        · rw [e]; exact List.mem_cons_self
        · exact List.mem_cons_of_mem _ (List.mem_map.mpr ⟨N, h, rfl⟩)) fun y hy => by
        rcases List.mem_cons.mp hy with e | h
        · rw [e]
          have := hm x List.mem_cons_self
          omega
        · obtain ⟨z, hz, rfl⟩ := List.mem_map.mp h
          have := hm z (List.mem_cons_of_mem _ hz)
          omega
      rw [← e]
      rfl
  exact ⟨key, key⟩
theorem max_ren {α : Type} [DecidableEq α] {l : List α} (hn : l ≠ []) : dMax1 [fD (renum l)] = some (nI (cnt l - 1)) ∧ 0 < cnt l := by
  have hp : 0 < cnt l := by
    cases l with
    | nil => exact absurd rfl hn
    | cons x l =>
      have : x ∈ dd (x :: l) := mem_dd.mpr List.mem_cons_self
      exact List.length_pos_of_mem this
  exact ⟨(max1_n (renum_onto (by omega)) fun x hx => by have := renum_lt hx; omega).1, hp⟩
theorem max_val {c : Nat} {xs : List Nat} (h1 : 1 ≤ c) (hv : Val c xs) : dMax1 [fD xs] = some (nI (cnt xs - 1)) ∧ 0 < cnt xs := by
  have hn : xs ≠ [] := fun e => by
    have := hv.len
    rw [e] at this
    simp at this
    omega
  have q := max_ren hn
  rw [hv.ren] at q
  exact q
theorem val_lt {c : Nat} {xs : List Nat} (hv : Val c xs) {n : Nat} (h : n ∈ xs) : n < cnt xs := by
  have := hv.ren
  exact renum_lt (by rw [this]; exact h)
theorem val_onto {c : Nat} {xs : List Nat} (hv : Val c xs) {n : Nat} (h : n < cnt xs) : n ∈ xs := by
  have q := renum_onto h
  rwa [hv.ren] at q
theorem cnt_len {α : Type} [DecidableEq α] : ∀ l : List α, cnt l ≤ l.length
  | [] => Nat.le_refl _
  | x :: l => by
    have := cnt_len l
    unfold FM.cnt at this ⊢
    rw [dd_cons]
    split
    · rw [List.length_cons]; omega
    · rw [List.length_cons, List.length_cons]; omega
/-! ### len(set(..)) -/
theorem dedup_run : ∀ (l : List Int) (S : List Int), S.Nodup → (l.foldl step_dedup S).Nodup ∧ ∀ v, v ∈ l.foldl step_dedup S ↔ v ∈ S ∨ v ∈ l
  | [], S, h => ⟨h, fun v => by simp⟩
  | x :: l, S, h => by
    rw [List.foldl_cons]
    have e : step_dedup S x = if x ∈ S then S else S ++ [x] := by
      unfold step_dedup
      simp
    by_cases z : x ∈ S
    · rw [e, if_pos z]
      obtain ⟨h1, h2⟩ := dedup_run l S h
      refine ⟨h1, fun v => ?_⟩
      rw [h2, List.mem_cons]
      constructor
      · rintro (q | q)
        · exact .inl q
        · exact .inr (.inr q)
      · rintro (q | q | q)
        · exact .inl q
        · exact .inl (q ▸ z)
        · exact .inr q
    · rw [e, if_neg z]
      obtain ⟨h1, h2⟩ := dedup_run l (S ++ [x]) (by
        rw [List.nodup_append]
        exact ⟨h, by simp, fun a ha b hb e => z (by rw [List.mem_singleton.mp hb] at e; rw [← e]; exact ha)⟩)
      refine ⟨h1, fun v => ?_⟩
      rw [h2, List.mem_append, List.mem_singleton, List.mem_cons, or_assoc]
theorem distinct_n (xs : List Nat) : (distinct (xs.map fun (n : Nat) => (n : Int))).length = cnt xs := by
  obtain ⟨h1, h2⟩ := dedup_run (xs.map fun (n : Nat) => (n : Int)) [] List.nodup_nil
  have e : cnt (xs.map fun (n : Nat) => (n : Int)) = cnt xs := by
    have q := cnt_ke (f := fun (n : Nat) => (n : Int)) (g := fun n : Nat => n) (pts := xs) fun x y _ _ => by dsimp only; omega
    rwa [List.map_id'] at q
  rw [← e]
  refine Nat.le_antisymm (len_le h1 fun v hv => mem_dd.mpr (((h2 v).mp hv).elim (fun z => nomatch z) id)) (len_le (nodup_dd _) fun v hv => (h2 v).mpr (.inr (mem_dd.mp hv)))
theorem lenSet_n {xs : List Nat} (h : xs.length ≤ 900) : dLenSet (lD xs) = some (nI (cnt xs)) := by
  unfold dLenSet lD
  dsimp only
  rw [nums_n]
  simp only [Option.bind_some, List.length_map]
  rw [if_pos (by omega), distinct_n]
  rfl
end FL
end
section
set_option linter.all false
/-! Lists of labels that are merged place by place. -/
namespace FM
section
variable {c : Nat}
def merN (xs : List Nat) (a b : Nat) : List Nat := xs.map fun v => if v = b then a else v
theorem merN_len (xs : List Nat) (a b : Nat) : (merN xs a b).length = xs.length := List.length_map ..
theorem merN_getD {xs : List Nat} {a b i : Nat} (h : i < xs.length) : (merN xs a b).getD i 0 = if xs.getD i 0 = b then a else xs.getD i 0 := by
  unfold merN
  simp [List.getD_eq_getElem?_getD, h]
theorem listGlue {E : Pt c → Nat} : ∀ (is : List (Fin c)) (L : List Nat), (∀ x, x ∈ pts2 c → E x < L.length) →
    (is.foldl (fun L i => merN L (L.getD (E (0, true, i)) 0) (L.getD (E (1, false, i)) 0)) L).length = L.length ∧
    ∀ x, x ∈ pts2 c → (is.foldl (fun L i => merN L (L.getD (E (0, true, i)) 0) (L.getD (E (1, false, i)) 0)) L).getD (E x) 0 = glue (fun x => L.getD (E x) 0) (is.map fun i => ((0, true, i), (1, false, i))) x
  | [], L, h => ⟨rfl, fun _ _ => rfl⟩
  | i :: is, L, h => by
    obtain ⟨h1, h2⟩ := listGlue (E := E) is (merN L (L.getD (E (0, true, i)) 0) (L.getD (E (1, false, i)) 0)) fun x hx => by rw [merN_len]; exact h x hx
    refine ⟨by rw [List.foldl_cons, h1, merN_len], fun x hx => ?_⟩
    rw [List.foldl_cons, h2 x hx, List.map_cons, glue_cons]
    refine glue_eqOn (S := (· ∈ pts2 c)) (fun y hy => ?_) (fun r hr => ?_) x hx
    · rw [merN_getD (h y hy)]
      rfl
    · obtain ⟨k, _, rfl⟩ := List.mem_map.mp hr
      exact ⟨mem_pts2.mpr (.inl rfl), mem_pts2.mpr (.inr rfl)⟩
/-- the same over places as numbers -/
theorem listGlueN {E : Pt c → Nat} {e0 e1 : Nat → Nat} (h0 : ∀ i : Fin c, E (0, true, i) = e0 i.val) (h1 : ∀ i : Fin c, E (1, false, i) = e1 i.val) (L : List Nat) (h : ∀ x, x ∈ pts2 c → E x < L.length) :
    ((List.range c).foldl (fun L i => merN L (L.getD (e0 i) 0) (L.getD (e1 i) 0)) L).length = L.length ∧
    ∀ x, x ∈ pts2 c → ((List.range c).foldl (fun L i => merN L (L.getD (e0 i) 0) (L.getD (e1 i) 0)) L).getD (E x) 0 = glue (fun x => L.getD (E x) 0) (prs c 0 1) x := by
  have q := listGlue (E := E) (List.finRange c) L h
  have e : (List.range c).foldl (fun L i => merN L (L.getD (e0 i) 0) (L.getD (e1 i) 0)) L = (List.finRange c).foldl (fun L i => merN L (L.getD (E (0, true, i)) 0) (L.getD (E (1, false, i)) 0)) L := by
    have f := fin_map (fun n => n) c
    rw [List.map_id'] at f
    rw [← f, List.foldl_map]
    refine congrArg (fun g => (List.finRange c).foldl g L) ?_
    funext L i
    rw [h0, h1]
  rw [e]
  exact q
theorem fg_lt {xs : List Nat} (hv : Val c xs) (x : P1 c) : fg c xs x ∈ xs := by
  have e := fg_list hv.len
  have q : fg c xs x ∈ (pts1 c).map (fg c xs) := List.mem_map_of_mem (mem_pts1 x)
  rwa [e] at q
theorem mem_fg {xs : List Nat} (hv : Val c xs) {n : Nat} (h : n ∈ xs) : ∃ x, fg c xs x = n := by
  have e := fg_list hv.len
  rw [← e] at h
  obtain ⟨x, _, q⟩ := List.mem_map.mp h
  exact ⟨x, q⟩
/-- what any such lists of labels tell -/
theorem put_any {A B R : List Nat} {E : Pt c → Nat} {L : List Nat} (hR : ∀ x, x ∈ pts2 c → R.getD (E x) 0 = glue (fun x => L.getD (E x) 0) (prs c 0 1) x) (ke : KE (· ∈ pts2 c) (fun x => L.getD (E x) 0) (lab (two (fg c A) (fg c B)))) :
    renum ((pts1 c).map fun x => R.getD (E (out x)) 0) = uponL c A B ∧ cnt ((pts2 c).map fun x => R.getD (E x) 0) = AL (fg c A) (fg c B) ∧ cnt ((pts1 c).map fun x => R.getD (E (out x)) 0) = nU (fg c A) (fg c B) := by
  have k := glue_ke ke (prs_in2 (c := c) (.inl rfl) (.inr rfl))
  have k2 : KE (· ∈ pts2 c) (fun x => R.getD (E x) 0) (T2 (fg c A) (fg c B)) := fun x y hx hy => by
    dsimp only
    rw [hR x hx, hR y hy]
    exact k x y hx hy
  have k3 : KE (· ∈ pts1 c) (fun x => R.getD (E (out x)) 0) (UP (fg c A) (fg c B)) := fun x y _ _ => k2 _ _ (out_in x) (out_in y)
  exact ⟨renum_ke k3, cnt_ke k2, cnt_ke k3⟩
/-! ### by pieces -/
def eP (c : Nat) (A B : List Nat) (x : Pt c) : Nat := if x.1 = 0 then fg c A x.2 else cnt A + fg c B x.2
def putR (c : Nat) (A B : List Nat) : List Nat := (List.range c).foldl (fun L i => merN L (L.getD (A.getD (c + i) 0) 0) (L.getD (cnt A + B.getD i 0) 0)) (List.range (cnt A + cnt B))
theorem getD_range {n i : Nat} (h : i < n) : (List.range n).getD i 0 = i := by simp [List.getD_eq_getElem?_getD, h]
theorem vlt {xs : List Nat} (hv : Val c xs) {n : Nat} (h : n ∈ xs) : n < cnt xs := by
  have := hv.ren
  exact renum_lt (by rw [this]; exact h)
theorem eP_lt {A B : List Nat} (hA : Val c A) (hB : Val c B) (x : Pt c) : eP c A B x < cnt A + cnt B := by
  unfold eP
  have a := vlt hA (fg_lt hA x.2)
  have b := vlt hB (fg_lt hB x.2)
  split <;> omega
theorem putR_ok {A B : List Nat} (hA : Val c A) (hB : Val c B) : (putR c A B).length = cnt A + cnt B ∧ renum ((pts1 c).map fun x => (putR c A B).getD (eP c A B (out x)) 0) = uponL c A B ∧
    cnt (putR c A B) - cnt ((pts1 c).map fun x => (putR c A B).getD (eP c A B (out x)) 0) = leftL c A B := by
  have hl : ∀ x, x ∈ pts2 c → eP c A B x < (List.range (cnt A + cnt B)).length := fun x _ => by rw [List.length_range]; exact eP_lt hA hB x
  obtain ⟨r1, r2⟩ := listGlueN (c := c) (E := eP c A B) (e0 := fun i => A.getD (c + i) 0) (e1 := fun i => cnt A + B.getD i 0) (fun i => rfl) (fun i => by
    show cnt A + B.getD (0 + i.val) 0 = _
    rw [Nat.zero_add]) (List.range (cnt A + cnt B)) hl
  have ke : KE (· ∈ pts2 c) (fun x => (List.range (cnt A + cnt B)).getD (eP c A B x) 0) (lab (two (fg c A) (fg c B))) := fun x y hx hy => by
    dsimp only
    rw [getD_range (eP_lt hA hB x), getD_range (eP_lt hA hB y)]
    obtain ⟨j, x⟩ := x
    obtain ⟨k, y⟩ := y
    have hx := mem_pts2.mp hx
    have hy := mem_pts2.mp hy
    simp only at hx hy
    have ax := vlt hA (fg_lt hA x)
    have ay := vlt hA (fg_lt hA y)
    unfold eP lab two
    rcases hx with rfl | rfl <;> rcases hy with rfl | rfl <;> simp <;> omega
  obtain ⟨p1, p2, p3⟩ := put_any (A := A) (B := B) (R := putR c A B) r2 ke
  refine ⟨by rw [← List.length_range (n := cnt A + cnt B)]; exact r1, p1, ?_⟩
  have e : cnt (putR c A B) = AL (fg c A) (fg c B) := by
    rw [← p2]
    refine cnt_congr fun v => ?_
    have hlen : (putR c A B).length = cnt A + cnt B := by rw [← List.length_range (n := cnt A + cnt B)]; exact r1
    constructor
    · intro h
      obtain ⟨i, hi, e⟩ := List.mem_iff_getElem.mp h
      rw [hlen] at hi
      have gd : (putR c A B).getD i 0 = v := by
        rw [List.getD_eq_getElem?_getD, List.getElem?_eq_getElem (by omega), e]
        rfl
      by_cases z : i < cnt A
      · obtain ⟨x, hx⟩ := mem_fg hA (by
          have q := renum_onto z
          rwa [hA.ren] at q)
        exact List.mem_map.mpr ⟨(0, x), mem_pts2.mpr (.inl rfl), by
          show (putR c A B).getD (fg c A x) 0 = v
          rw [hx, gd]⟩
      · obtain ⟨x, hx⟩ := mem_fg hB (n := i - cnt A) (by
          have q := renum_onto (l := B) (n := i - cnt A) (by omega)
          rwa [hB.ren] at q)
        exact List.mem_map.mpr ⟨(1, x), mem_pts2.mpr (.inr rfl), by
          show (putR c A B).getD (cnt A + fg c B x) 0 = v
          rw [hx, show cnt A + (i - cnt A) = i by omega, gd]⟩
    · intro h
      obtain ⟨x, hx, rfl⟩ := List.mem_map.mp h
      have hi : eP c A B x < (putR c A B).length := by rw [hlen]; exact eP_lt hA hB x
      rw [List.getD_eq_getElem?_getD, List.getElem?_eq_getElem hi]
      exact List.getElem_mem hi
  rw [e, p3]
  rfl
/-- the labels, tops and bottoms -/
theorem putR_labels {A B : List Nat} (hA : Val c A) (hB : Val c B) : (pts1 c).map (fun x => (putR c A B).getD (eP c A B (out x)) 0) = (A.take c).map (fun p => (putR c A B).getD p 0) ++ (B.drop c).map (fun p => (putR c A B).getD (cnt A + p) 0) := by
  unfold pts1 side
  rw [List.map_append, List.map_map, List.map_map]
  have t : A.take c = (List.range c).map fun i => A.getD i 0 := by
    apply List.ext_getElem
    · have := hA.len; simp; omega
    · intro i h1 h2
      have : i < A.length := by have := hA.len; simp at h1; omega
      simp [List.getElem?_eq_getElem this]
  have d : B.drop c = (List.range c).map fun i => B.getD (c + i) 0 := by
    apply List.ext_getElem
    · have := hB.len; simp; omega
    · intro i h1 h2
      have : c + i < B.length := by have := hB.len; simp at h1; omega
      simp [List.getElem?_eq_getElem this]
  rw [t, d, List.map_map, List.map_map, ← fin_map, ← fin_map]
  congr 1
  refine List.map_congr_left fun i _ => ?_
  show (putR c A B).getD (A.getD (0 + i.val) 0) 0 = (putR c A B).getD (A.getD i.val 0) 0
  rw [Nat.zero_add]
end
end FM
end
section
set_option linter.all false
/-! The law's own joining, rings by lists. -/
namespace FM
section
variable {c : Nat}
/-! ### by points -/
def eX (c : Nat) (x : Pt c) : Nat := 2 * c * x.1 + ((if x.2.1 = true then c else 0) + x.2.2.val)
def markL (c : Nat) (A B : List Nat) : List Nat := A ++ B.map fun b => 2 * c + b
def upR (c : Nat) (A B : List Nat) : List Nat := (List.range c).foldl (fun L i => merN L (L.getD (c + i) 0) (L.getD (2 * c + i) 0)) (markL c A B)
theorem fin2 {s : Bool} (i : Fin c) : (if s = true then c else 0) + i.val < 2 * c := by
  have := i.isLt
  split <;> omega
theorem eX_lt {x : Pt c} (hx : x ∈ pts2 c) : eX c x < 4 * c := by
  obtain ⟨j, s, i⟩ := x
  have hx := mem_pts2.mp hx
  have := fin2 (s := s) i
  unfold eX
  simp only at hx ⊢
  rcases hx with rfl | rfl <;> omega
theorem mark_len {A B : List Nat} (hA : Val c A) (hB : Val c B) : (markL c A B).length = 4 * c := by
  unfold markL
  rw [List.length_append, List.length_map, hA.len, hB.len]
  omega
theorem mark_at {A B : List Nat} (hA : Val c A) (hB : Val c B) (x : P1 c) : (markL c A B).getD (eX c (0, x)) 0 = fg c A x ∧ (markL c A B).getD (eX c (1, x)) 0 = 2 * c + fg c B x := by
  obtain ⟨s, i⟩ := x
  have h := fin2 (s := s) i
  have lA := hA.len
  have lB := hB.len
  unfold markL eX fg
  constructor
  · simp only [Nat.mul_zero, Nat.zero_add]
    rw [List.getD_eq_getElem?_getD, List.getElem?_append_left (by omega), List.getD_eq_getElem?_getD]
  · simp only [Nat.mul_one]
    rw [List.getD_eq_getElem?_getD, List.getElem?_append_right (by omega), lA, Nat.add_sub_cancel_left, List.getElem?_map, List.getD_eq_getElem?_getD, List.getElem?_eq_getElem (by omega)]
    rfl
/-- how many unlike ones, by first places -/
def firsts (l : List Nat) : List Nat := (List.range l.length).filter fun i => decide (l.getD i 0 ∉ l.take i)
theorem cnt_snoc (l : List Nat) (x : Nat) : cnt (l ++ [x]) = cnt l + if x ∈ l then 0 else 1 := by
  rw [cnt_filter]
  congr 1
  by_cases h : x ∈ l
  · simp [h, cnt, dd]
  · simp [h, cnt, dd]
theorem firsts_len (l : List Nat) : (firsts l).length = cnt l := by
  induction l using snocInd with
  | nil => rfl
  | snoc l x ih =>
    rw [cnt_snoc, ← ih]
    unfold firsts
    rw [List.length_append, List.length_singleton, List.range_succ, List.filter_append, List.length_append]
    have e1 : (List.range l.length).filter (fun i => decide ((l ++ [x]).getD i 0 ∉ (l ++ [x]).take i)) = (List.range l.length).filter fun i => decide (l.getD i 0 ∉ l.take i) := by
      refine List.filter_congr fun i hi => ?_
      have hi := List.mem_range.mp hi
      have e2 : (l ++ [x]).getD i 0 = l.getD i 0 := by
        rw [List.getD_eq_getElem?_getD, List.getD_eq_getElem?_getD, List.getElem?_append_left hi]
      have e3 : (l ++ [x]).take i = l.take i := by rw [List.take_append_of_le_length (by omega)]
      rw [e2, e3]
    rw [e1]
    congr 1
    have e4 : (l ++ [x]).getD l.length 0 = x := by simp [List.getD_eq_getElem?_getD]
    have e5 : (l ++ [x]).take l.length = l := by simp
    rw [List.filter_cons, e4, e5]
    by_cases h : x ∈ l <;> simp [h]
theorem upR_ok {A B : List Nat} (hA : Val c A) (hB : Val c B) : (upR c A B).length = 4 * c ∧
    renum ((upR c A B).take c ++ (upR c A B).drop (3 * c)) = uponL c A B ∧
    (firsts (((upR c A B).drop c).take c |>.filter fun v => decide (v ∉ (upR c A B).take c ++ (upR c A B).drop (3 * c)))).length = leftL c A B := by
  have hl : ∀ x, x ∈ pts2 c → eX c x < (markL c A B).length := fun x hx => by rw [mark_len hA hB]; exact eX_lt hx
  obtain ⟨r1, r2⟩ := listGlueN (c := c) (E := eX c) (e0 := fun i => c + i) (e1 := fun i => 2 * c + i) (fun i => by
    unfold eX; simp) (fun i => by unfold eX; simp) (markL c A B) hl
  have r1 : (upR c A B).length = 4 * c := by rw [← mark_len hA hB]; exact r1
  have r2 : ∀ x, x ∈ pts2 c → (upR c A B).getD (eX c x) 0 = glue (fun x => (markL c A B).getD (eX c x) 0) (prs c 0 1) x := r2
  have ke : KE (· ∈ pts2 c) (fun x => (markL c A B).getD (eX c x) 0) (lab (two (fg c A) (fg c B))) := fun x y hx hy => by
    dsimp only
    obtain ⟨j, x⟩ := x
    obtain ⟨k, y⟩ := y
    have hx := mem_pts2.mp hx
    have hy := mem_pts2.mp hy
    simp only at hx hy
    have ax := vlt hA (fg_lt hA x)
    have ay := vlt hA (fg_lt hA y)
    have cA : cnt A ≤ 2 * c := by
      have q : cnt A ≤ A.length := len_le (nodup_dd A) fun v hv => mem_dd.mp hv
      rw [hA.len] at q
      exact q
    rcases hx with rfl | rfl <;> rcases hy with rfl | rfl
    · rw [(mark_at hA hB x).1, (mark_at hA hB y).1]
      show _ ↔ ((0, fg c A x) : Nat × Nat) = (0, fg c A y)
      simp
    · rw [(mark_at hA hB x).1, (mark_at hA hB y).2]
      show _ ↔ ((0, fg c A x) : Nat × Nat) = (1, fg c B y)
      simp
      omega
    · rw [(mark_at hA hB x).2, (mark_at hA hB y).1]
      show _ ↔ ((1, fg c B x) : Nat × Nat) = (0, fg c A y)
      simp
      omega
    · rw [(mark_at hA hB x).2, (mark_at hA hB y).2]
      show _ ↔ ((1, fg c B x) : Nat × Nat) = (1, fg c B y)
      simp
  obtain ⟨p1, p2, p3⟩ := put_any (A := A) (B := B) (R := upR c A B) r2 ke
  have kept : (pts1 c).map (fun x => (upR c A B).getD (eX c (out x)) 0) = (upR c A B).take c ++ (upR c A B).drop (3 * c) := by
    unfold pts1 side
    rw [List.map_append, List.map_map, List.map_map]
    have t : (upR c A B).take c = (List.range c).map fun i => (upR c A B).getD i 0 := by
      apply List.ext_getElem
      · simp; omega
      · intro i h1 h2
        have : i < (upR c A B).length := by simp at h1; omega
        simp [List.getElem?_eq_getElem this]
    have d : (upR c A B).drop (3 * c) = (List.range c).map fun i => (upR c A B).getD (3 * c + i) 0 := by
      apply List.ext_getElem
      · simp; omega
      · intro i h1 h2
        have : 3 * c + i < (upR c A B).length := by simp at h1; omega
        simp [List.getElem?_eq_getElem this]
    rw [t, d, ← fin_map, ← fin_map]
    congr 1
    · refine List.map_congr_left fun i _ => ?_
      show (upR c A B).getD (eX c (0, false, i)) 0 = _
      unfold eX
      simp
    · refine List.map_congr_left fun i _ => ?_
      show (upR c A B).getD (eX c (1, true, i)) 0 = _
      unfold eX
      simp only [Nat.mul_one, if_true]
      rw [show 2 * c + (c + i.val) = 3 * c + i.val by omega]
  refine ⟨r1, by rw [← kept]; exact p1, ?_⟩
  rw [firsts_len]
  have mid : ((upR c A B).drop c).take c = (List.range c).map fun i => (upR c A B).getD (c + i) 0 := by
    apply List.ext_getElem
    · simp; omega
    · intro i h1 h2
      have : c + i < (upR c A B).length := by simp at h1; omega
      simp [List.getElem?_eq_getElem this]
  have all : cnt ((pts2 c).map fun x => (upR c A B).getD (eX c x) 0) = cnt (((upR c A B).take c ++ (upR c A B).drop (3 * c)) ++ ((upR c A B).drop c).take c) := by
    refine cnt_congr fun v => ?_
    rw [List.mem_append, ← kept, mid, ← fin_map]
    constructor
    · intro h
      obtain ⟨⟨j, s, i⟩, hx, e⟩ := List.mem_map.mp h
      have hx := mem_pts2.mp hx
      simp only at hx
      rcases hx with rfl | rfl <;> cases s
      · exact .inl (List.mem_map.mpr ⟨(false, i), mem_pts1 _, e⟩)
      · refine .inr (List.mem_map.mpr ⟨i, List.mem_finRange i, ?_⟩)
        rw [← e]
        unfold eX
        simp
      · refine .inr (List.mem_map.mpr ⟨i, List.mem_finRange i, ?_⟩)
        have g := glue_pr (f := fun x => (markL c A B).getD (eX c x) 0) (ps := prs c 0 1) (x := (0, true, i)) (y := (1, false, i)) (mem_prs.mpr ⟨i, rfl⟩)
        rw [← r2 _ (mem_pts2.mpr (.inl rfl)), ← r2 _ (mem_pts2.mpr (.inr rfl))] at g
        rw [← e]
        rw [← g]
        unfold eX
        simp
      · exact .inl (List.mem_map.mpr ⟨(true, i), mem_pts1 _, e⟩)
    · rintro (h | h)
      · obtain ⟨x, _, e⟩ := List.mem_map.mp h
        exact List.mem_map.mpr ⟨out x, out_in x, e⟩
      · obtain ⟨i, _, e⟩ := List.mem_map.mp h
        refine List.mem_map.mpr ⟨(0, true, i), mem_pts2.mpr (.inl rfl), ?_⟩
        rw [← e]
        unfold eX
        simp
  rw [cnt_filter, p2, ← kept, p3] at all
  unfold leftL LEFT
  rw [← kept]
  omega
/-! ### rings -/
def clR (c : Nat) (A : List Nat) : List Nat := (List.range c).foldl (fun L i => merN L (L.getD i 0) (L.getD (c + i) 0)) A
theorem listClose {A : List Nat} (hl : A.length = 2 * c) : ∀ (is : List (Fin c)) (L : List Nat), L.length = 2 * c →
    (is.foldl (fun L i => merN L (L.getD i.val 0) (L.getD (c + i.val) 0)) L).length = 2 * c ∧
    ∀ x : P1 c, fg c (is.foldl (fun L i => merN L (L.getD i.val 0) (L.getD (c + i.val) 0)) L) x = glue (fg c L) (is.map fun i => ((false, i), (true, i))) x
  | [], L, h => ⟨h, fun _ => rfl⟩
  | i :: is, L, h => by
    obtain ⟨h1, h2⟩ := listClose hl is (merN L (L.getD i.val 0) (L.getD (c + i.val) 0)) (by rw [merN_len]; exact h)
    refine ⟨by rw [List.foldl_cons, h1], fun x => ?_⟩
    rw [List.foldl_cons, h2 x, List.map_cons, glue_cons]
    congr 1
    funext y
    obtain ⟨s, k⟩ := y
    have := fin2 (s := s) k
    show (merN L _ _).getD ((if s = true then c else 0) + k.val) 0 = if fg c L (s, k) = fg c L (true, i) then fg c L (false, i) else fg c L (s, k)
    rw [merN_getD (by omega)]
    have e1 : fg c L (true, i) = L.getD (c + i.val) 0 := rfl
    have e2 : fg c L (false, i) = L.getD i.val 0 := by
      show L.getD (0 + i.val) 0 = _
      rw [Nat.zero_add]
    rw [e1, e2]
    rfl
theorem clR_ok {A : List Nat} (hA : Val c A) : (clR c A).length = 2 * c ∧ ∀ x : P1 c, fg c (clR c A) x = CL (fg c A) x := by
  have q := listClose (c := c) hA.len (List.finRange c) A hA.len
  have e : clR c A = (List.finRange c).foldl (fun L i => merN L (L.getD i.val 0) (L.getD (c + i.val) 0)) A := by
    unfold clR
    have f := fin_map (fun n => n) c
    rw [List.map_id'] at f
    rw [← f, List.foldl_map]
  rw [e]
  exact q
theorem clR_take {A : List Nat} (hA : Val c A) : (clR c A).take c = (side c false).map (CL (fg c A)) ∧ cnt ((clR c A).take c) = ringsL c A := by
  have e : (clR c A).take c = (side c false).map (CL (fg c A)) := by
    obtain ⟨h1, h2⟩ := clR_ok hA
    unfold side
    rw [List.map_map]
    have t : (clR c A).take c = (List.range c).map fun i => (clR c A).getD i 0 := by
      apply List.ext_getElem
      · simp; omega
      · intro i h3 h4
        have : i < (clR c A).length := by simp at h3; omega
        simp [List.getElem?_eq_getElem this]
    rw [t, ← fin_map]
    refine List.map_congr_left fun i _ => ?_
    show _ = CL (fg c A) (false, i)
    rw [← h2]
    show _ = (clR c A).getD (0 + i.val) 0
    rw [Nat.zero_add]
  exact ⟨e, by rw [e]; rfl⟩
/-! ### turned over, mirrored -/
def ovr (x : P1 c) : P1 c := (!x.1, x.2)
def glass (x : P1 c) : P1 c := (x.1, x.2.rev)
theorem CL_map {A : Fg c} {e : P1 c → P1 c} (he : ∀ r ∈ cls c, (e r.1, e r.2) ∈ cls c ∨ (e r.2, e r.1) ∈ cls c) (inv : ∀ x, e (e x) = x) (x y : P1 c) : CL (fun x => A (e x)) x = CL (fun x => A (e x)) y ↔ CL A (e x) = CL A (e y) := by
  unfold CL
  rw [glue_iff, glue_iff]
  constructor
  · intro h
    refine h.map e (fun x y h => .ker h) fun x y h => ?_
    rcases he _ h with q | q
    · exact .pr q
    · exact .sym (.pr q)
  · intro h
    have k := h.map (g := fun x => A (e x)) (qs := cls c) e (fun x y h => .ker (by show A (e (e x)) = A (e (e y)); rw [inv, inv]; exact h)) fun x y h => by
      rcases he _ h with q | q
      · exact .pr q
      · exact .sym (.pr q)
    rwa [inv, inv] at k
theorem RINGS_map {A : Fg c} {e : P1 c → P1 c} (he : ∀ r ∈ cls c, (e r.1, e r.2) ∈ cls c ∨ (e r.2, e r.1) ∈ cls c) (inv : ∀ x, e (e x) = x) : RINGS (fun x => A (e x)) = RINGS A := by
  rw [RINGS_all, RINGS_all]
  have k : KE (· ∈ pts1 c) (CL fun x => A (e x)) (fun x => CL A (e x)) := fun x y _ _ => CL_map he inv x y
  rw [cnt_ke k]
  refine cnt_congr fun v => ?_
  rw [List.mem_map, List.mem_map]
  exact ⟨fun ⟨x, _, q⟩ => ⟨e x, mem_pts1 _, q⟩, fun ⟨x, _, q⟩ => ⟨e x, mem_pts1 _, by rw [inv]; exact q⟩⟩
theorem mem_cls {r : P1 c × P1 c} : r ∈ cls c ↔ ∃ i, r = ((false, i), (true, i)) := by
  unfold cls
  rw [List.mem_map]
  exact ⟨fun ⟨i, _, e⟩ => ⟨i, e.symm⟩, fun ⟨i, e⟩ => ⟨i, List.mem_finRange i, e.symm⟩⟩
theorem rings_over (A : Fg c) : RINGS (fun x => A (ovr x)) = RINGS A := RINGS_map (fun r hr => by
  obtain ⟨i, rfl⟩ := mem_cls.mp hr
  exact .inr (mem_cls.mpr ⟨i, rfl⟩)) fun x => by
  obtain ⟨s, i⟩ := x
  cases s <;> rfl
theorem rings_glass (A : Fg c) : RINGS (fun x => A (glass x)) = RINGS A := RINGS_map (fun r hr => by
  obtain ⟨i, rfl⟩ := mem_cls.mp hr
  exact .inl (mem_cls.mpr ⟨i.rev, rfl⟩)) fun x => by
  obtain ⟨s, i⟩ := x
  unfold glass
  simp [Fin.rev_rev]
theorem over_list {A : List Nat} (hA : Val c A) : A.drop c ++ A.take c = (pts1 c).map fun x => fg c A (ovr x) := by
  unfold pts1 side
  rw [List.map_append, List.map_map, List.map_map]
  have hl := hA.len
  have t : A.take c = (List.range c).map fun i => A.getD i 0 := by
    apply List.ext_getElem
    · simp; omega
    · intro i h1 h2
      have : i < A.length := by simp at h1; omega
      simp [List.getElem?_eq_getElem this]
  have d : A.drop c = (List.range c).map fun i => A.getD (c + i) 0 := by
    apply List.ext_getElem
    · simp; omega
    · intro i h1 h2
      have : c + i < A.length := by simp at h1; omega
      simp [List.getElem?_eq_getElem this]
  rw [t, d, ← fin_map, ← fin_map]
  congr 1
  refine List.map_congr_left fun i _ => ?_
  show _ = A.getD (0 + i.val) 0
  rw [Nat.zero_add]
theorem glass_list {A : List Nat} (hA : Val c A) : (A.take c).reverse ++ (A.drop c).reverse = (pts1 c).map fun x => fg c A (glass x) := by
  unfold pts1 side
  rw [List.map_append, List.map_map, List.map_map]
  have hl := hA.len
  have t : (A.take c).reverse = (List.finRange c).map fun i => A.getD (c - 1 - i.val) 0 := by
    apply List.ext_getElem
    · simp; omega
    · intro i h1 h2
      have h3 : i < c := by simp at h2; omega
      have : c - 1 - i < A.length := by omega
      rw [List.getElem_reverse]
      have e : (A.take c).length = c := by simp; omega
      simp [e, List.getElem?_eq_getElem this]
  have d : (A.drop c).reverse = (List.finRange c).map fun i => A.getD (c + (c - 1 - i.val)) 0 := by
    apply List.ext_getElem
    · simp; omega
    · intro i h1 h2
      have h3 : i < c := by simp at h2; omega
      have : c + (c - 1 - i) < A.length := by omega
      rw [List.getElem_reverse]
      have e : (A.drop c).length = c := by simp; omega
      simp [e, List.getElem?_eq_getElem this]
  rw [t, d]
  congr 1
  · refine List.map_congr_left fun i _ => ?_
    show _ = A.getD (0 + (i.rev).val) 0
    rw [Nat.zero_add, Fin.val_rev, show c - (i.val + 1) = c - 1 - i.val by omega]
  · refine List.map_congr_left fun i _ => ?_
    show _ = A.getD (c + (i.rev).val) 0
    rw [Fin.val_rev, show c - (i.val + 1) = c - 1 - i.val by omega]
theorem rings_overL {A : List Nat} (hA : Val c A) : Val c (renum (A.drop c ++ A.take c)) ∧ ringsL c (renum (A.drop c ++ A.take c)) = ringsL c A := by
  rw [over_list hA]
  refine ⟨fgl_val _, ?_⟩
  unfold ringsL
  exact (RINGS_ke (fgl_kf (c := c) fun x => fg c A (ovr x))).trans (rings_over _)
theorem rings_glassL {A : List Nat} (hA : Val c A) : Val c (renum ((A.take c).reverse ++ (A.drop c).reverse)) ∧ ringsL c (renum ((A.take c).reverse ++ (A.drop c).reverse)) = ringsL c A := by
  rw [glass_list hA]
  refine ⟨fgl_val _, ?_⟩
  unfold ringsL
  exact (RINGS_ke (fgl_kf (c := c) fun x => fg c A (glass x))).trans (rings_glass _)
/-! ### a row turned round -/
theorem row_round (d : List Nat) (ds : List (List Nat)) (hd : Val c d) : ringsL c (rowL c (d :: ds)).1 + (rowL c (d :: ds)).2 = ringsL c (rowL c (ds ++ [d])).1 + (rowL c (ds ++ [d])).2 := by
  have h1 : rowL c (d :: ds) = (uponL c d (rowL c ds).1, leftL c d (rowL c ds).1 + (rowL c ds).2) := by
    have s := stL_upon hd
    show rowF c (uponL c (stL c) d, 0 + leftL c (stL c) d) ds = _
    rw [s.1, s.2, rowF_from d hd]
    rw [Nat.zero_add]
  have h2 : rowL c (ds ++ [d]) = (uponL c (rowL c ds).1 d, (rowL c ds).2 + leftL c (rowL c ds).1 d) := by
    unfold rowL
    rw [rowF_snoc]
  have t := uponL_trace (c := c) d (rowL c ds).1
  rw [h1, h2]
  dsimp only
  omega
end
end FM
end
section
set_option linter.all false
set_option maxRecDepth 100000
namespace FL
open PySem PySem.Spec PyProof.Rows L2 DL FM
theorem seq_nx {f g : FS} {env env' : Ev} (h : f env = .ret (.nx env')) : sSeq f g env = g env' := by
  unfold sSeq
  rw [h]
  rfl
theorem set_nx {i : Nat} {f : FE} {env : Ev} {d : D} (h : f env = .ret d) : sSet i f env = .ret (.nx (env.set i (some (.val d)))) := by
  unfold sSet
  rw [h]
  rfl
theorem ret_rv {f : FE} {env : Ev} {d : D} (h : f env = .ret d) : sRet f env = .ret (.rv d) := by
  unfold sRet
  rw [h]
  rfl
theorem fn_v {n : Nat} {k : Kd} {fb : FS} {ss : List Slot} {d : D} (h : fb (startE n ss) = .ret (.rv d)) : fnF n k fb ss = .ret d := by
  unfold fnF
  rw [h]
  rfl
theorem e2_r {g : D → D → Option D} {fa fb : FE} {env : Ev} {x y d : D} (ha : fa env = .ret x) (hb : fb env = .ret y) (hg : g x y = some d) : e2 g fa fb env = .ret d := by
  unfold e2
  rw [ha, bret, hb, bret, hg]
  rfl
theorem cut_take (xs : List Nat) (n : Nat) : DL.cutD (nL xs) none (some (n : Int)) = nL (xs.take n) := by
  unfold DL.cutD
  rw [HT.sIx_none, HT.sIx_nat, List.drop_zero, Nat.sub_zero]
  unfold nL
  rw [← List.map_take, List.length_map]
  congr 1
  by_cases h : n ≤ xs.length
  · rw [Nat.min_eq_left h]
  · rw [Nat.min_eq_right (by omega), List.take_of_length_le (by omega), List.take_of_length_le (by omega)]
theorem cut_drop (xs : List Nat) (n : Nat) : DL.cutD (nL xs) (some (n : Int)) none = nL (xs.drop n) := by
  unfold DL.cutD
  rw [HT.sIx_none, HT.sIx_nat]
  unfold nL
  rw [← List.map_drop, ← List.map_take, List.length_map]
  congr 1
  by_cases h : n ≤ xs.length
  · rw [Nat.min_eq_left h, List.take_of_length_le (by simp)]
  · rw [Nat.min_eq_right (by omega), List.drop_of_length_le (by omega : xs.length ≤ n)]
    simp
theorem cut_mid {xs : List Nat} {a b : Nat} (hab : a ≤ b) (hb : b ≤ xs.length) : DL.cutD (nL xs) (some (a : Int)) (some (b : Int)) = nL ((xs.drop a).take (b - a)) := by
  unfold DL.cutD
  rw [HT.sIx_nat, HT.sIx_nat]
  unfold nL
  rw [← List.map_drop, ← List.map_take, List.length_map, Nat.min_eq_left (by omega), Nat.min_eq_left (by omega)]
theorem nL_app (xs ys : List Nat) : nL xs ++ nL ys = nL (xs ++ ys) := by unfold nL; rw [List.map_append]
theorem cat_n {xs ys : List Nat} (h : xs.length + ys.length ≤ 1000) : dAddA (lD xs) (lD ys) = some (lD (xs ++ ys)) := by
  have e : dCat (lD xs) (lD ys) = some (lD (xs ++ ys)) := by
    unfold lD dCat
    dsimp only
    rw [if_pos (by rw [nL_len, nL_len]; exact sl1000 h), nL_app]
  unfold dAddA
  exact e
theorem catT_n {xs ys : List Nat} (h : xs.length + ys.length ≤ 1000) : dAddA (fD xs) (fD ys) = some (fD (xs ++ ys)) := by
  have e : dAdd (fD xs) (fD ys) = some (fD (xs ++ ys)) := by
    unfold fD dAdd
    dsimp only
    rw [if_pos (by rw [nL_len, nL_len]; exact sl1000 h), nL_app]
  unfold dAddA
  rw [e]
theorem nI_sub {a b : Nat} (h : b ≤ a) : dSub (nI a) (nI b) = some (nI (a - b)) := by
  unfold nI dSub
  dsimp only
  congr 2
  omega
theorem nI_mul {a b : Nat} (h : a < 1000) : dMul (nI a) (nI b) = some (nI (a * b)) := by
  unfold nI
  rw [dMul_l (by omega)]
  congr 2
theorem lc1 {f : FE} {env : Ev} {d : D} (h : f env = .ret d) : lCons f lNil env = .ret [d] := by
  unfold lCons
  rw [h]
  rfl
theorem rgL_eq {r : FL} {env : Ev} {ds : List D} {lo : Int} {n : Nat} (h : r env = .ret ds) (q : rngOf ds = some (lo, n)) (hn : n ≤ 16777216) : eRgL r env = .ret (.list (rngD lo n)) := by
  unfold eRgL
  rw [h, bret, q]
  exact if_pos hn
theorem forR_eq {r : FL} {tgt : FG} {body : FS} {env : Ev} {ds : List D} {lo : Int} {n : Nat} (h : r env = .ret ds) (q : rngOf ds = some (lo, n)) : sForR r tgt body env = forD tgt body (rngD lo n) env := by
  unfold sForR
  rw [h, bret, q]
theorem compR_eq {r : FL} {tgt : FG} {t : FT} {fe : FE} {vs : List Nat} {env : Ev} {ds : List D} {lo : Int} {n : Nat} (h : r env = .ret ds) (q : rngOf ds = some (lo, n)) : eCompR r tgt t fe vs env = endComp tgt t fe (wipeE env vs) (rngD lo n) := by
  unfold eCompR
  rw [h, bret, q]
theorem rgL_n {f : FE} {env : Ev} {n : Nat} (h : f env = .ret (nI n)) (hn : n ≤ 1000) : eRgL (lCons f lNil) env = .ret (lD (List.range n)) := by
  rw [rgL_eq (lc1 h) (rngOf_n hn) (by omega), rng_n]
  rfl
theorem atL {xs : List Nat} {i : Nat} (h : i < xs.length) : dIx (lD xs) (nI i) = some (nI (xs.getD i 0)) := by
  unfold lD nI
  rw [dIx_l]
  exact nL_at h
theorem atT {xs : List Nat} {i : Nat} (h : i < xs.length) : dIx (fD xs) (nI i) = some (nI (xs.getD i 0)) := by
  unfold fD nI
  rw [dIx_t]
  exact nL_at h
theorem forR_n {f : FE} {tgt : FG} {body : FS} {env : Ev} {n : Nat} (h : f env = .ret (nI n)) (hn : n ≤ 1000) : sForR (lCons f lNil) tgt body env = forD tgt body ((List.range n).map nI) env := by
  rw [forR_eq (lc1 h) (rngOf_n hn), rng_n]
theorem getD_take {xs : List Nat} {i : Nat} (h : i < xs.length) : xs.getD i 0 = xs[i] := by simp [List.getD_eq_getElem?_getD, h]
theorem getD_mem {xs : List Nat} {i : Nat} (h : i < xs.length) : xs.getD i 0 ∈ xs := by
  rw [getD_take h]
  exact List.getElem_mem h
theorem tup2 {fa fb : FE} {env : Ev} {x y : D} (ha : fa env = .ret x) (hb : fb env = .ret y) : eTup (lCons fa (lCons fb lNil)) env = .ret (.tuple [x, y]) := by
  have e : lCons fa (lCons fb lNil) env = .ret [x, y] := by
    show (fa env).bind _ = _
    rw [ha, bret, lc1 hb]
    rfl
  unfold eTup
  rw [e, bret]
  exact if_pos (show 2 ≤ sizeLine by decide)
/-! ### one figure upon another one -/
abbrev bPut : FS := sSeq (sSet 9 (e2 dIx (eVar 4) (e2 dIx (eVar 1) (e2 dAddA (eVar 0) (eVar 5))))) (sSeq (sSet 10 (e2 dIx (eVar 4) (e2 dAddA (eVar 3) (e2 dIx (eVar 2) (eVar 5))))) (sIf (tt (e2 dNe (eVar 9) (eVar 10))) (sSet 4 (eCall m_merged (aVal (eVar 4) (aVal (eVar 9) (aVal (eVar 10) aNil))))) sNext))
theorem v_put {c : Nat} {A B : List Nat} (h1 : 1 ≤ c) (h5 : c ≤ 5) (hA : Val c A) (hB : Val c B) : m_put_together [.val (nI c), .val (fD A), .val (fD B)] = .ret (.tuple [fD (uponL c A B), nI (leftL c A B)]) := by
  have lA := hA.len
  have lB := hB.len
  obtain ⟨mA, pA⟩ := max_val h1 hA
  obtain ⟨mB, pB⟩ := max_val h1 hB
  have cA : cnt A ≤ 10 := by have := cnt_len A; omega
  have cB : cnt B ≤ 10 := by have := cnt_len B; omega
  obtain ⟨rl, r1, r2⟩ := putR_ok hA hB
  let e0 : Ev := [some (.val (nI c)), some (.val (fD A)), some (.val (fD B)), none, none, none, none, none, none, none, none, none]
  let e1 : Ev := [some (.val (nI c)), some (.val (fD A)), some (.val (fD B)), some (.val (nI (cnt A))), none, none, none, none, none, none, none, none]
  let e2' : Ev := [some (.val (nI c)), some (.val (fD A)), some (.val (fD B)), some (.val (nI (cnt A))), some (.val (lD (List.range (cnt A + cnt B)))), none, none, none, none, none, none, none]
  have s1 : sSet 3 (e2 dAddA (eCB dMax1 (lCons (eVar 1) lNil)) (eC (.int 1))) e0 = .ret (.nx e1) := by
    have a : eCB dMax1 (lCons (eVar 1) lNil) e0 = .ret (nI (cnt A - 1)) := by
      show Tr.ofOpt (dMax1 [fD A]) = _
      rw [mA]
      rfl
    have b : e2 dAddA (eCB dMax1 (lCons (eVar 1) lNil)) (eC (.int 1)) e0 = .ret (nI (cnt A)) := by
      refine e2_r a (y := nI 1) rfl ?_
      rw [nI_add, Nat.sub_add_cancel pA]
    rw [set_nx b]
    rfl
  have s2 : sSet 4 (eRgL (lCons (e2 dAddA (e2 dAddA (eVar 3) (eCB dMax1 (lCons (eVar 2) lNil))) (eC (.int 1))) lNil)) e1 = .ret (.nx e2') := by
    have a : eCB dMax1 (lCons (eVar 2) lNil) e1 = .ret (nI (cnt B - 1)) := by
      show Tr.ofOpt (dMax1 [fD B]) = _
      rw [mB]
      rfl
    have b : e2 dAddA (e2 dAddA (eVar 3) (eCB dMax1 (lCons (eVar 2) lNil))) (eC (.int 1)) e1 = .ret (nI (cnt A + cnt B)) := by
      refine e2_r (e2_r (x := nI (cnt A)) rfl a nI_add) (y := nI 1) rfl ?_
      rw [nI_add]
      congr 2
      omega
    rw [set_nx (rgL_n b (by omega))]
    rfl
  have key : ∀ (i : Nat) (L : List Nat) (x : Nat) (env : Ev), (List.range c)[i]? = some x → (∃ d5 d9 d10, env = [some (.val (nI c)), some (.val (fD A)), some (.val (fD B)), some (.val (nI (cnt A))), some (.val (lD L)), d5, none, none, none, d9, d10, none] ∧ L.length = cnt A + cnt B) →
      ∃ env1 env2, gN 5 (nI x) env = some env1 ∧ bPut env1 = .ret (.nx env2) ∧ ∃ d5 d9 d10, env2 = [some (.val (nI c)), some (.val (fD A)), some (.val (fD B)), some (.val (nI (cnt A))), some (.val (lD (merN L (L.getD (A.getD (c + x) 0) 0) (L.getD (cnt A + B.getD x 0) 0)))), d5, none, none, none, d9, d10, none] ∧ (merN L (L.getD (A.getD (c + x) 0) 0) (L.getD (cnt A + B.getD x 0) 0)).length = cnt A + cnt B := by
    rintro i L x env hx ⟨d5, d9, d10, e, hL⟩
    have hxc : x < c := by
      obtain ⟨hi, e⟩ := List.getElem?_eq_some_iff.mp hx
      rw [List.getElem_range] at e
      rw [List.length_range] at hi
      omega
    subst e
    have hp : A.getD (c + x) 0 < cnt A := val_lt hA (getD_mem (by omega))
    have hq : B.getD x 0 < cnt B := val_lt hB (getD_mem (by omega))
    have i1 : dIx (fD A) (nI (c + x)) = some (nI (A.getD (c + x) 0)) := atT (by omega)
    have i2 : dIx (fD B) (nI x) = some (nI (B.getD x 0)) := atT (by omega)
    have i3 : dIx (lD L) (nI (A.getD (c + x) 0)) = some (nI (L.getD (A.getD (c + x) 0) 0)) := atL (by omega)
    have i4 : dIx (lD L) (nI (cnt A + B.getD x 0)) = some (nI (L.getD (cnt A + B.getD x 0) 0)) := atL (by omega)
    have i5 := v_merged (xs := L) (a := L.getD (A.getD (c + x) 0) 0) (b := L.getD (cnt A + B.getD x 0) 0) (by omega)
    refine ⟨_, [some (.val (nI c)), some (.val (fD A)), some (.val (fD B)), some (.val (nI (cnt A))), some (.val (lD (merN L (L.getD (A.getD (c + x) 0) 0) (L.getD (cnt A + B.getD x 0) 0)))), some (.val (nI x)), none, none, none, some (.val (nI (L.getD (A.getD (c + x) 0) 0))), some (.val (nI (L.getD (cnt A + B.getD x 0) 0))), none], rfl, ?_, _, _, _, rfl, by rw [merN_len, hL]⟩
    by_cases z : L.getD (A.getD (c + x) 0) 0 = L.getD (cnt A + B.getD x 0) 0
    · have ms : merN L (L.getD (A.getD (c + x) 0) 0) (L.getD (cnt A + B.getD x 0) 0) = L := by
        rw [z]
        exact merL_same L _
      rw [ms]
      simp only [bPut, fnF, startE, sSeq, sSet, sSetO, sRet, sExpr, sIf, sNext, sAsg, sForR, sForS, sForE, e2, eC, eVar, eVarB, eCB, eCall, aVal, aNil, lCons, lNil, eTup, eLst, eIf, eTy, fTy, eSl, oNone, oSome, eChain, vAnd, vOr, vNot, bNot, bAnd, bOr, tt, fTru, gN, gT, gsCons, gsNil, bret, ofS, Tr.ofOpt, List.map_cons, List.map_nil, List.length_cons, List.length_nil, List.cons_append, List.nil_append, List.replicate_succ, List.replicate_zero, List.getElem?_cons_zero, List.getElem?_cons_succ, List.set_cons_zero, List.set_cons_succ, Option.bind_some, Option.map_some, if_true, tyName, Nat.reduceSub, Nat.reduceAdd, List.replicate, nI_add, i1, i2, i3, i4, nI_ne, z, decide_true, Bool.not_true, Bool.false_eq_true, if_false]
    · simp only [bPut, fnF, startE, sSeq, sSet, sSetO, sRet, sExpr, sIf, sNext, sAsg, sForR, sForS, sForE, e2, eC, eVar, eVarB, eCB, eCall, aVal, aNil, lCons, lNil, eTup, eLst, eIf, eTy, fTy, eSl, oNone, oSome, eChain, vAnd, vOr, vNot, bNot, bAnd, bOr, tt, fTru, gN, gT, gsCons, gsNil, bret, ofS, Tr.ofOpt, List.map_cons, List.map_nil, List.length_cons, List.length_nil, List.cons_append, List.nil_append, List.replicate_succ, List.replicate_zero, List.getElem?_cons_zero, List.getElem?_cons_succ, List.set_cons_zero, List.set_cons_succ, Option.bind_some, Option.map_some, if_true, tyName, Nat.reduceSub, Nat.reduceAdd, List.replicate, nI_add, i1, i2, i3, i4, nI_ne, z, decide_false, Bool.not_false, i5]
      rfl
  obtain ⟨env', f1, d5, d9, d10, e, hL⟩ := for_all (tgt := gN 5) (dd := nI) _ (fun L i => merN L (L.getD (A.getD (c + i) 0) 0) (L.getD (cnt A + B.getD i 0) 0)) (xs := List.range c) (s := List.range (cnt A + cnt B)) (env := e2') ⟨none, none, none, rfl, List.length_range⟩ key
  have e : env' = [some (.val (nI c)), some (.val (fD A)), some (.val (fD B)), some (.val (nI (cnt A))), some (.val (lD (putR c A B))), d5, none, none, none, d9, d10, none] := e
  have s3 : sForR (lCons (eVar 0) lNil) (gN 5) bPut e2' = .ret (.nx env') := (forR_n (n := c) rfl (by omega)).trans f1
  subst e
  let R := putR c A B
  have hRl : R.length = cnt A + cnt B := rl
  let tops := (A.take c).map fun p => R.getD p 0
  let bots := (B.drop c).map fun p => R.getD (cnt A + p) 0
  have ltops : tops.length ≤ 10 := by show ((A.take c).map _).length ≤ 10; rw [List.length_map, List.length_take]; omega
  have lbots : bots.length ≤ 10 := by show ((B.drop c).map _).length ≤ 10; rw [List.length_map, List.length_drop]; omega
  have s4 : eCompS (eSl dSlA (eVar 1) oNone (oSome (eVar 0))) (gN 11) fYes (e2 dIx (eVar 4) (eVar 11)) [11] [some (.val (nI c)), some (.val (fD A)), some (.val (fD B)), some (.val (nI (cnt A))), some (.val (lD R)), d5, none, none, none, d9, d10, none] = .ret (lD tops) := by
    have q := end_all (tgt := gN 11) (t := fYes) (fe := e2 dIx (eVar 4) (eVar 11)) (env := [some (.val (nI c)), some (.val (fD A)), some (.val (fD B)), some (.val (nI (cnt A))), some (.val (lD R)), d5, none, none, none, d9, d10, none]) (dd := nI) (g := fun p => nI (R.getD p 0)) (xs := A.take c) (by rw [List.length_take]; omega) fun p hp => ⟨_, rfl, rfl, e2_r (x := lD R) (y := nI p) rfl rfl (atL (by have := val_lt hA (List.mem_of_mem_take hp); omega))⟩
    have t : eSl dSlA (eVar 1) oNone (oSome (eVar 0)) [some (.val (nI c)), some (.val (fD A)), some (.val (fD B)), some (.val (nI (cnt A))), some (.val (lD R)), d5, none, none, none, d9, d10, none] = .ret (fD (A.take c)) := by
      show Tr.ofOpt (some (PyData.tuple (DL.cutD (nL A) none (some (c : Int))))) = _
      rw [cut_take]
      rfl
    unfold eCompS
    rw [t, bret]
    refine Eq.trans q ?_
    show Tr.ret (PyData.list ((A.take c).map fun p => nI (R.getD p 0))) = Tr.ret (lD ((A.take c).map fun p => R.getD p 0))
    unfold lD nL
    rw [List.map_map]
    rfl
  have s5 : eCompS (eSl dSlA (eVar 2) (oSome (eVar 0)) oNone) (gN 11) fYes (e2 dIx (eVar 4) (e2 dAddA (eVar 3) (eVar 11))) [11] [some (.val (nI c)), some (.val (fD A)), some (.val (fD B)), some (.val (nI (cnt A))), some (.val (lD R)), d5, some (.val (lD tops)), none, none, d9, d10, none] = .ret (lD bots) := by
    have q := end_all (tgt := gN 11) (t := fYes) (fe := e2 dIx (eVar 4) (e2 dAddA (eVar 3) (eVar 11))) (env := [some (.val (nI c)), some (.val (fD A)), some (.val (fD B)), some (.val (nI (cnt A))), some (.val (lD R)), d5, some (.val (lD tops)), none, none, d9, d10, none]) (dd := nI) (g := fun p => nI (R.getD (cnt A + p) 0)) (xs := B.drop c) (by rw [List.length_drop]; omega) fun p hp => ⟨_, rfl, rfl, e2_r (x := lD R) (y := nI (cnt A + p)) rfl (e2_r (x := nI (cnt A)) (y := nI p) rfl rfl nI_add) (atL (by have := val_lt hB (List.mem_of_mem_drop hp); omega))⟩
    have t : eSl dSlA (eVar 2) (oSome (eVar 0)) oNone [some (.val (nI c)), some (.val (fD A)), some (.val (fD B)), some (.val (nI (cnt A))), some (.val (lD R)), d5, some (.val (lD tops)), none, none, d9, d10, none] = .ret (fD (B.drop c)) := by
      show Tr.ofOpt (some (PyData.tuple (DL.cutD (nL B) (some (c : Int)) none))) = _
      rw [cut_drop]
      rfl
    unfold eCompS
    rw [t, bret]
    refine Eq.trans q ?_
    show Tr.ret (PyData.list ((B.drop c).map fun p => nI (R.getD (cnt A + p) 0))) = Tr.ret (lD ((B.drop c).map fun p => R.getD (cnt A + p) 0))
    unfold lD nL
    rw [List.map_map]
    rfl
  have lab : (pts1 c).map (fun x => R.getD (eP c A B (out x)) 0) = tops ++ bots := putR_labels hA hB
  rw [lab] at r1 r2
  have s6 : e2 dAddA (eVar 6) (eVar 7) [some (.val (nI c)), some (.val (fD A)), some (.val (fD B)), some (.val (nI (cnt A))), some (.val (lD R)), d5, some (.val (lD tops)), some (.val (lD bots)), none, d9, d10, none] = .ret (lD (tops ++ bots)) := e2_r (x := lD tops) (y := lD bots) rfl rfl (cat_n (by omega))
  have s7 : eTup (lCons (eCall m_renumbered (aVal (eVar 8) aNil)) (lCons (e2 dSub (eLenSet (eVar 4)) (eLenSet (eVar 8))) lNil)) [some (.val (nI c)), some (.val (fD A)), some (.val (fD B)), some (.val (nI (cnt A))), some (.val (lD R)), d5, some (.val (lD tops)), some (.val (lD bots)), some (.val (lD (tops ++ bots))), d9, d10, none] = .ret (.tuple [fD (uponL c A B), nI (leftL c A B)]) := by
    have a := v_renumbered (xs := tops ++ bots) (by rw [List.length_append]; omega)
    rw [r1] at a
    have b1 : eLenSet (eVar 4) [some (.val (nI c)), some (.val (fD A)), some (.val (fD B)), some (.val (nI (cnt A))), some (.val (lD R)), d5, some (.val (lD tops)), some (.val (lD bots)), some (.val (lD (tops ++ bots))), d9, d10, none] = .ret (nI (cnt R)) := by
      show Tr.ofOpt (dLenSet (lD R)) = _
      rw [lenSet_n (by omega)]
      rfl
    have b2 : eLenSet (eVar 8) [some (.val (nI c)), some (.val (fD A)), some (.val (fD B)), some (.val (nI (cnt A))), some (.val (lD R)), d5, some (.val (lD tops)), some (.val (lD bots)), some (.val (lD (tops ++ bots))), d9, d10, none] = .ret (nI (cnt (tops ++ bots))) := by
      show Tr.ofOpt (dLenSet (lD (tops ++ bots))) = _
      rw [lenSet_n (by rw [List.length_append]; omega)]
      rfl
    have le : cnt (tops ++ bots) ≤ cnt R := by
      rw [← lab]
      refine cnt_le fun v hv => ?_
      obtain ⟨x, _, rfl⟩ := List.mem_map.mp hv
      exact getD_mem (by rw [hRl]; exact eP_lt hA hB _)
    have b := e2_r (g := dSub) b1 b2 (nI_sub le)
    have r2' : cnt R - cnt (tops ++ bots) = leftL c A B := r2
    rw [r2'] at b
    have a2 : eCall m_renumbered (aVal (eVar 8) aNil) [some (.val (nI c)), some (.val (fD A)), some (.val (fD B)), some (.val (nI (cnt A))), some (.val (lD R)), d5, some (.val (lD tops)), some (.val (lD bots)), some (.val (lD (tops ++ bots))), d9, d10, none] = .ret (fD (uponL c A B)) := a
    exact tup2 a2 b
  unfold m_put_together
  refine fn_v (d := .tuple [fD (uponL c A B), nI (leftL c A B)]) ?_
  refine (seq_nx (env := e0) s1).trans ((seq_nx s2).trans ((seq_nx s3).trans ((seq_nx (set_nx s4)).trans ((seq_nx (set_nx s5)).trans ((seq_nx (set_nx s6)).trans ?_)))))
  exact ret_rv s7
end FL
end
section
set_option linter.all false
set_option maxRecDepth 100000
namespace FL
open PySem PySem.Spec PyProof.Rows L2 DL FM
theorem rngx {c i x : Nat} (hx : (List.range c)[i]? = some x) : x < c := by
  obtain ⟨hi, e⟩ := List.getElem?_eq_some_iff.mp hx
  rw [List.getElem_range] at e
  rw [List.length_range] at hi
  omega
theorem tup2' {fa fb : FE} {env : Ev} {x y : D} (ha : fa env = .ret x) (hb : fb env = .ret y) : eTup (lCons fa (lCons fb lNil)) env = .ret (.tuple [x, y]) := tup2 ha hb
theorem asg_two {f : FE} {i j : Nat} {env : Ev} {x y : D} (h : f env = .ret (.tuple [x, y])) : sAsg f (gT 2 (gsCons (gN i) (gsCons (gN j) gsNil))) env = .ret (.nx ((env.set i (some (.val x))).set j (some (.val y)))) := by
  unfold sAsg
  rw [h]
  rfl
theorem firsts_map (l : List Nat) : ((firsts l).map fun i => l.getD i 0).length = (firsts l).length := List.length_map ..
/-! ### the law's joining -/
abbrev bUp : FS := sSeq (sAsg (eTup (lCons (e2 dIx (eVar 3) (e2 dAddA (e2 dMul (eC (.int 2)) (eVar 0)) (eVar 4))) (lCons (e2 dIx (eVar 3) (e2 dAddA (eVar 0) (eVar 4))) lNil))) (gT 2 (gsCons (gN 8) (gsCons (gN 9) gsNil)))) (sIf (tt (e2 dNe (eVar 8) (eVar 9))) (sSet 3 (eCompS (eVar 3) (gN 10) fYes (eIf (tt (e2 dEq (eVar 10) (eVar 8))) (eVar 9) (eVar 10)) [10])) sNext)
theorem v_lawup {c : Nat} {A B : List Nat} (h1 : 1 ≤ c) (h5 : c ≤ 5) (hA : Val c A) (hB : Val c B) : m_law_upon [.val (nI c), .val (fD A), .val (fD B)] = .ret (.tuple [fD (uponL c A B), nI (leftL c A B)]) := by
  have lA := hA.len
  have lB := hB.len
  obtain ⟨rl, r1, r2⟩ := upR_ok hA hB
  have ml := mark_len hA hB
  let e0 : Ev := [some (.val (nI c)), some (.val (fD A)), some (.val (fD B)), none, none, none, none, none, none, none, none]
  let e1 : Ev := [some (.val (nI c)), some (.val (fD A)), some (.val (fD B)), some (.val (lD (markL c A B))), none, none, none, none, none, none, none]
  have s1 : sSet 3 (e2 dAddA (eCompS (eVar 1) (gN 10) fYes (eVar 10) [10]) (eCompS (eVar 2) (gN 10) fYes (e2 dAddA (e2 dMul (eC (.int 2)) (eVar 0)) (eVar 10)) [10])) e0 = .ret (.nx e1) := by
    have a : eCompS (eVar 1) (gN 10) fYes (eVar 10) [10] e0 = .ret (lD A) := end_all (dd := nI) (g := nI) (xs := A) (by omega) fun x _ => ⟨e0.set 10 (some (.val (nI x))), rfl, rfl, rfl⟩
    have b : eCompS (eVar 2) (gN 10) fYes (e2 dAddA (e2 dMul (eC (.int 2)) (eVar 0)) (eVar 10)) [10] e0 = .ret (lD (B.map fun b => 2 * c + b)) := by
      have q := end_all (tgt := gN 10) (t := fYes) (fe := e2 dAddA (e2 dMul (eC (.int 2)) (eVar 0)) (eVar 10)) (env := e0) (dd := nI) (g := fun b => nI (2 * c + b)) (xs := B) (by omega) fun x _ => ⟨_, rfl, rfl, e2_r (e2_r (x := nI 2) (y := nI c) rfl rfl (nI_mul (by decide))) (y := nI x) rfl nI_add⟩
      refine Eq.trans q ?_
      unfold lD nL
      rw [List.map_map]
      rfl
    rw [set_nx (e2_r a b (cat_n (by rw [List.length_map]; omega)))]
    rfl
  have key : ∀ (i : Nat) (L : List Nat) (x : Nat) (env : Ev), (List.range c)[i]? = some x → (∃ d4 d8 d9, env = [some (.val (nI c)), some (.val (fD A)), some (.val (fD B)), some (.val (lD L)), d4, none, none, none, d8, d9, none] ∧ L.length = 4 * c) →
      ∃ env1 env2, gN 4 (nI x) env = some env1 ∧ bUp env1 = .ret (.nx env2) ∧ ∃ d4 d8 d9, env2 = [some (.val (nI c)), some (.val (fD A)), some (.val (fD B)), some (.val (lD (merN L (L.getD (c + x) 0) (L.getD (2 * c + x) 0)))), d4, none, none, none, d8, d9, none] ∧ (merN L (L.getD (c + x) 0) (L.getD (2 * c + x) 0)).length = 4 * c := by
    rintro i L x env hx ⟨d4, d8, d9, e, hL⟩
    have hxc := rngx hx
    subst e
    have i1 : dIx (lD L) (nI (2 * c + x)) = some (nI (L.getD (2 * c + x) 0)) := atL (by omega)
    have i2 : dIx (lD L) (nI (c + x)) = some (nI (L.getD (c + x) 0)) := atL (by omega)
    let f0 : Ev := [some (.val (nI c)), some (.val (fD A)), some (.val (fD B)), some (.val (lD L)), some (.val (nI x)), none, none, none, d8, d9, none]
    let f1 : Ev := [some (.val (nI c)), some (.val (fD A)), some (.val (fD B)), some (.val (lD L)), some (.val (nI x)), none, none, none, some (.val (nI (L.getD (2 * c + x) 0))), some (.val (nI (L.getD (c + x) 0))), none]
    have t1 : eTup (lCons (e2 dIx (eVar 3) (e2 dAddA (e2 dMul (eC (.int 2)) (eVar 0)) (eVar 4))) (lCons (e2 dIx (eVar 3) (e2 dAddA (eVar 0) (eVar 4))) lNil)) f0 = .ret (.tuple [nI (L.getD (2 * c + x) 0), nI (L.getD (c + x) 0)]) :=
      tup2 (e2_r (x := lD L) rfl (e2_r (e2_r (x := nI 2) (y := nI c) rfl rfl (nI_mul (by decide))) (y := nI x) rfl nI_add) i1) (e2_r (x := lD L) rfl (e2_r (x := nI c) (y := nI x) rfl rfl nI_add) i2)
    have t2 := asg_two (i := 8) (j := 9) t1
    refine ⟨f0, [some (.val (nI c)), some (.val (fD A)), some (.val (fD B)), some (.val (lD (merN L (L.getD (c + x) 0) (L.getD (2 * c + x) 0)))), some (.val (nI x)), none, none, none, some (.val (nI (L.getD (2 * c + x) 0))), some (.val (nI (L.getD (c + x) 0))), none], rfl, ?_, _, _, _, rfl, by rw [merN_len, hL]⟩
    refine (seq_nx t2).trans ?_
    show sIf _ _ _ f1 = _
    by_cases z : L.getD (2 * c + x) 0 = L.getD (c + x) 0
    · have ms : merN L (L.getD (c + x) 0) (L.getD (2 * c + x) 0) = L := by
        rw [z]
        exact merL_same L _
      rw [ms]
      have t3 : tt (e2 dNe (eVar 8) (eVar 9)) f1 = .ret false := by
        have q : e2 dNe (eVar 8) (eVar 9) f1 = .ret (.bool false) := e2_r (x := nI (L.getD (2 * c + x) 0)) (y := nI (L.getD (c + x) 0)) rfl rfl (by rw [nI_ne, decide_eq_true z]; rfl)
        unfold tt
        rw [q]
        rfl
      unfold sIf
      rw [t3]
      rfl
    · have t3 : tt (e2 dNe (eVar 8) (eVar 9)) f1 = .ret true := by
        have q : e2 dNe (eVar 8) (eVar 9) f1 = .ret (.bool true) := e2_r (x := nI (L.getD (2 * c + x) 0)) (y := nI (L.getD (c + x) 0)) rfl rfl (by rw [nI_ne, decide_eq_false z]; rfl)
        unfold tt
        rw [q]
        rfl
      unfold sIf
      rw [t3]
      have t4 : eCompS (eVar 3) (gN 10) fYes (eIf (tt (e2 dEq (eVar 10) (eVar 8))) (eVar 9) (eVar 10)) [10] f1 = .ret (lD (merN L (L.getD (c + x) 0) (L.getD (2 * c + x) 0))) :=
        mer_comp (env := f1) (i := 10) (j := 8) (k := 9) (a := L.getD (c + x) 0) (b := L.getD (2 * c + x) 0) (xs := L) (by omega) (by decide) (by decide) (Nat.lt_succ_self 10) rfl rfl
      show sSet 3 _ f1 = _
      rw [set_nx t4]
      rfl
  obtain ⟨env', g1, d4, d8, d9, e, hL⟩ := for_all (tgt := gN 4) (dd := nI) _ (fun L i => merN L (L.getD (c + i) 0) (L.getD (2 * c + i) 0)) (xs := List.range c) (s := markL c A B) (env := e1) ⟨none, none, none, rfl, ml⟩ key
  have e : env' = [some (.val (nI c)), some (.val (fD A)), some (.val (fD B)), some (.val (lD (upR c A B))), d4, none, none, none, d8, d9, none] := e
  have s2 : sForR (lCons (eVar 0) lNil) (gN 4) bUp e1 = .ret (.nx env') := (forR_n (n := c) rfl (by omega)).trans g1
  subst e
  let R := upR c A B
  have hRl : R.length = 4 * c := rl
  let kept := R.take c ++ R.drop (3 * c)
  have hk : kept.length ≤ 20 := by show (R.take c ++ R.drop (3 * c)).length ≤ 20; rw [List.length_append, List.length_take, List.length_drop]; omega
  let lost := ((R.drop c).take c).filter fun v => decide (v ∉ kept)
  have hlo : lost.length ≤ 5 := by
    have := List.length_filter_le (fun v => decide (v ∉ kept)) ((R.drop c).take c)
    have h3 : ((R.drop c).take c).length ≤ 5 := by rw [List.length_take]; omega
    exact Nat.le_trans this h3
  let f2 : Ev := [some (.val (nI c)), some (.val (fD A)), some (.val (fD B)), some (.val (lD R)), d4, none, none, none, d8, d9, none]
  have s3 : e2 dAddA (eSl dSlA (eVar 3) oNone (oSome (eVar 0))) (eSl dSlA (eVar 3) (oSome (e2 dMul (eC (.int 3)) (eVar 0))) oNone) f2 = .ret (lD kept) := by
    have a : eSl dSlA (eVar 3) oNone (oSome (eVar 0)) f2 = .ret (lD (R.take c)) := by
      show Tr.ofOpt (some (PyData.list (DL.cutD (nL R) none (some (c : Int))))) = _
      rw [cut_take]
      rfl
    have m3 : e2 dMul (eC (.int 3)) (eVar 0) f2 = .ret (nI (3 * c)) := e2_r (x := nI 3) (y := nI c) rfl rfl (nI_mul (by decide))
    have b : eSl dSlA (eVar 3) (oSome (e2 dMul (eC (.int 3)) (eVar 0))) oNone f2 = .ret (lD (R.drop (3 * c))) := by
      have o : oSome (e2 dMul (eC (.int 3)) (eVar 0)) f2 = .ret (some ((3 * c : Nat) : Int)) := by
        unfold oSome
        rw [m3]
        rfl
      unfold eSl
      rw [show eVar 3 f2 = .ret (lD R) from rfl, bret, o, bret]
      show Tr.ofOpt (some (PyData.list (DL.cutD (nL R) (some ((3 * c : Nat) : Int)) none))) = _
      rw [cut_drop]
      rfl
    exact e2_r a b (cat_n (by have := hk; rw [← List.length_append]; show kept.length ≤ 1000; omega))
  let f3 : Ev := [some (.val (nI c)), some (.val (fD A)), some (.val (fD B)), some (.val (lD R)), d4, some (.val (lD kept)), none, none, d8, d9, none]
  have s4 : eCompS (eSl dSlA (eVar 3) (oSome (eVar 0)) (oSome (e2 dMul (eC (.int 2)) (eVar 0)))) (gN 10) (tt (e2 (dIn true) (eVar 10) (eVar 5))) (eVar 10) [10] f3 = .ret (lD lost) := by
    have m2 : e2 dMul (eC (.int 2)) (eVar 0) f3 = .ret (nI (2 * c)) := e2_r (x := nI 2) (y := nI c) rfl rfl (nI_mul (by decide))
    have o : oSome (e2 dMul (eC (.int 2)) (eVar 0)) f3 = .ret (some ((2 * c : Nat) : Int)) := by
      unfold oSome
      rw [m2]
      rfl
    have sl : eSl dSlA (eVar 3) (oSome (eVar 0)) (oSome (e2 dMul (eC (.int 2)) (eVar 0))) f3 = .ret (lD ((R.drop c).take c)) := by
      unfold eSl
      rw [show eVar 3 f3 = .ret (lD R) from rfl, bret, show oSome (eVar 0) f3 = .ret (some (c : Int)) from rfl, bret, o, bret]
      show Tr.ofOpt (some (PyData.list (DL.cutD (nL R) (some (c : Int)) (some ((2 * c : Nat) : Int))))) = _
      rw [cut_mid (by omega) (by omega), show 2 * c - c = c by omega]
      rfl
    have q := end_filter (tgt := gN 10) (t := tt (e2 (dIn true) (eVar 10) (eVar 5))) (fe := eVar 10) (env := f3) (dd := nI) (g := nI) (p := fun v => decide (v ∉ kept)) (xs := (R.drop c).take c) (by rw [List.length_take]; omega) fun x _ => ⟨f3.set 10 (some (.val (nI x))), rfl, by
      have e : e2 (dIn true) (eVar 10) (eVar 5) (f3.set 10 (some (.val (nI x)))) = .ret (.bool (decide (x ∉ kept))) := e2_r (x := nI x) (y := lD kept) rfl rfl (by
        rw [dIn_n]
        by_cases h : x ∈ kept <;> simp [h])
      unfold tt
      rw [e]
      rfl, fun _ => rfl⟩
    unfold eCompS
    rw [sl, bret]
    exact q
  let f4 : Ev := [some (.val (nI c)), some (.val (fD A)), some (.val (fD B)), some (.val (lD R)), d4, some (.val (lD kept)), some (.val (lD lost)), none, d8, d9, none]
  have s5 : eCompR (lCons (eCB dLenA (lCons (eVar 6) lNil)) lNil) (gN 4) (tt (e2 (dIn true) (e2 dIx (eVar 6) (eVar 4)) (eSl dSlA (eVar 6) oNone (oSome (eVar 4))))) (e2 dIx (eVar 6) (eVar 4)) [4] f4 = .ret (.list ((firsts lost).map fun i => nI (lost.getD i 0))) := by
    have ln : eCB dLenA (lCons (eVar 6) lNil) f4 = .ret (nI lost.length) := by
      show Tr.ofOpt (dLenA [lD lost]) = _
      show Tr.ofOpt (some (PyData.int ((nL lost).length : Nat))) = _
      rw [nL_len]
      rfl
    rw [compR_eq (lc1 ln) (rngOf_n (n := lost.length) (by omega)), rng_n]
    let f5 : Ev := wipeE f4 [4]
    refine end_filter (tgt := gN 4) (env := f5) (dd := nI) (g := fun i => nI (lost.getD i 0)) (p := fun i => decide (lost.getD i 0 ∉ lost.take i)) (xs := List.range lost.length) (by rw [List.length_range]; omega) fun x hx => ⟨f5.set 4 (some (.val (nI x))), rfl, ?_, fun _ => ?_⟩
    · have hx := List.mem_range.mp hx
      have a : e2 dIx (eVar 6) (eVar 4) (f5.set 4 (some (.val (nI x)))) = .ret (nI (lost.getD x 0)) := e2_r (x := lD lost) (y := nI x) rfl rfl (atL hx)
      have b : eSl dSlA (eVar 6) oNone (oSome (eVar 4)) (f5.set 4 (some (.val (nI x)))) = .ret (lD (lost.take x)) := by
        show Tr.ofOpt (some (PyData.list (DL.cutD (nL lost) none (some (x : Int))))) = _
        rw [cut_take]
        rfl
      have e : e2 (dIn true) (e2 dIx (eVar 6) (eVar 4)) (eSl dSlA (eVar 6) oNone (oSome (eVar 4))) (f5.set 4 (some (.val (nI x)))) = .ret (.bool (decide (lost.getD x 0 ∉ lost.take x))) := e2_r a b (by
        rw [dIn_n]
        by_cases h : lost.getD x 0 ∈ lost.take x <;> simp [h])
      unfold tt
      rw [e]
      rfl
    · have hx := List.mem_range.mp hx
      exact e2_r (x := lD lost) (y := nI x) rfl rfl (atL hx)
  let f6 : Ev := [some (.val (nI c)), some (.val (fD A)), some (.val (fD B)), some (.val (lD R)), d4, some (.val (lD kept)), some (.val (lD lost)), some (.val (.list ((firsts lost).map fun i => nI (lost.getD i 0)))), d8, d9, none]
  have s6 : eTup (lCons (eCall m_law_named (aVal (eVar 5) aNil)) (lCons (eCB dLenA (lCons (eVar 7) lNil)) lNil)) f6 = .ret (.tuple [fD (uponL c A B), nI (leftL c A B)]) := by
    have a := v_named (xs := kept) (by omega)
    have r1' : renum kept = uponL c A B := r1
    rw [r1'] at a
    have b : eCB dLenA (lCons (eVar 7) lNil) f6 = .ret (nI (leftL c A B)) := by
      show Tr.ofOpt (some (PyData.int (((firsts lost).map fun i => nI (lost.getD i 0)).length : Nat))) = _
      rw [List.length_map]
      have r2' : (firsts lost).length = leftL c A B := r2
      rw [r2']
      rfl
    exact tup2 (show eCall m_law_named (aVal (eVar 5) aNil) f6 = .ret (fD (uponL c A B)) from a) b
  unfold m_law_upon
  refine fn_v (d := .tuple [fD (uponL c A B), nI (leftL c A B)]) ?_
  refine (seq_nx (env := e0) s1).trans ((seq_nx s2).trans ((seq_nx (set_nx s3)).trans ((seq_nx (set_nx s4)).trans ((seq_nx (set_nx s5)).trans ?_))))
  exact ret_rv s6
end FL
end
section
set_option linter.all false
/-! The places of each number. -/
namespace FM
def posN : Nat → List Nat → Nat → List Nat
  | _, [], _ => []
  | p, x :: xs, k => if x = k then p :: posN (p + 1) xs k else posN (p + 1) xs k
theorem posN_eq (k : Nat) : ∀ (xs : List Nat) (p : Nat), posN p xs k = ((List.range xs.length).filter fun i => decide (xs.getD i 0 = k)).map fun i => p + i
  | [], _ => rfl
  | x :: xs, p => by
    unfold posN
    rw [posN_eq k xs (p + 1), List.length_cons, List.range_succ_eq_map, List.filter_cons]
    have e : ((List.range xs.length).map Nat.succ).filter (fun i => decide ((x :: xs).getD i 0 = k)) = ((List.range xs.length).filter fun i => decide (xs.getD i 0 = k)).map Nat.succ := by
      rw [List.filter_map]
      congr 1
    rw [e]
    have e2 : (x :: xs).getD 0 0 = x := rfl
    rw [e2]
    by_cases h : x = k
    · rw [if_pos h, if_pos (by simpa using h), List.map_cons, List.map_map]
      congr 1
      refine List.map_congr_left fun i _ => ?_
      show p + 1 + i = p + (i + 1)
      omega
    · rw [if_neg h, if_neg (by simpa using h), List.map_map]
      refine List.map_congr_left fun i _ => ?_
      show p + 1 + i = p + (i + 1)
      omega
/-- the places of each number, by the numbers -/
def plcs (l : List Nat) : List (List Nat) := (List.range (cnt l)).map fun k => (List.range l.length).filter fun i => decide ((renum l).getD i 0 = k)
theorem ren_snoc (l : List Nat) (x : Nat) : renum (l ++ [x]) = renum l ++ [if x ∈ l then (seen l).idxOf x else cnt l] := by
  unfold renum renF
  have h := ren_all l
  have e : (l.foldl ren1 (([] : List Nat), [])).1 = seen l := rfl
  have e0 : ∀ s : List Nat × List Nat, (ren1 s x).2 = s.2 ++ [(if x ∈ s.1 then s.1 else s.1 ++ [x]).idxOf x] := fun _ => rfl
  rw [List.foldl_append, List.foldl_cons, List.foldl_nil, e0, e]
  congr 2
  by_cases z : x ∈ l
  · have z2 := (h.2.2 x).mpr z
    rw [if_pos z2, if_pos z]
  · have z2 : x ∉ seen l := fun q => z ((h.2.2 x).mp q)
    rw [if_neg z2, if_neg z, List.idxOf_append, if_neg z2, ← seen_len]
    simp
theorem firsts_snoc (l : List Nat) (x : Nat) : firsts (l ++ [x]) = firsts l ++ if x ∈ l then [] else [l.length] := by
  unfold firsts
  rw [List.length_append, List.length_singleton, List.range_succ, List.filter_append]
  have e1 : (List.range l.length).filter (fun i => decide ((l ++ [x]).getD i 0 ∉ (l ++ [x]).take i)) = (List.range l.length).filter fun i => decide (l.getD i 0 ∉ l.take i) := by
    refine List.filter_congr fun i hi => ?_
    have hi := List.mem_range.mp hi
    have e2 : (l ++ [x]).getD i 0 = l.getD i 0 := by
      rw [List.getD_eq_getElem?_getD, List.getD_eq_getElem?_getD, List.getElem?_append_left hi]
    have e3 : (l ++ [x]).take i = l.take i := by rw [List.take_append_of_le_length (by omega)]
    rw [e2, e3]
  rw [e1]
  congr 1
  have e4 : (l ++ [x]).getD l.length 0 = x := by simp [List.getD_eq_getElem?_getD]
  have e5 : (l ++ [x]).take l.length = l := by simp
  rw [List.filter_cons, e4, e5]
  by_cases h : x ∈ l <;> simp [h]
theorem firsts_ren (l : List Nat) : (firsts l).map (fun i => (renum l).getD i 0) = List.range (cnt l) := by
  induction l using snocInd with
  | nil => rfl
  | snoc l x ih =>
    rw [firsts_snoc, ren_snoc, cnt_snoc, List.map_append]
    have e : (firsts l).map (fun i => (renum l ++ [if x ∈ l then (seen l).idxOf x else cnt l]).getD i 0) = (firsts l).map fun i => (renum l).getD i 0 := by
      refine List.map_congr_left fun i hi => ?_
      have hi : i < l.length := by
        unfold firsts at hi
        exact List.mem_range.mp ((List.mem_filter.mp hi).1)
      rw [List.getD_eq_getElem?_getD, List.getElem?_append_left (by rw [renum_len]; exact hi), List.getD_eq_getElem?_getD]
    rw [e, ih]
    by_cases h : x ∈ l
    · simp [h]
    · rw [if_neg h, if_neg h, if_neg h, List.range_succ]
      congr 1
      have := renum_len l
      rw [List.map_cons, List.map_nil]
      congr 1
      rw [List.getD_eq_getElem?_getD, ← this]
      simp
theorem ren_iff {l : List Nat} {i j : Nat} (hi : i < l.length) (hj : j < l.length) : (renum l).getD i 0 = (renum l).getD j 0 ↔ l.getD i 0 = l.getD j 0 := by
  have h := ren_all l
  have g : ∀ k, k < l.length → (renum l).getD k 0 = (seen l).idxOf (l.getD k 0) := fun k hk => by
    rw [h.1]
    simp [List.getD_eq_getElem?_getD, hk]
  rw [g i hi, g j hj]
  refine ⟨fun e => idx_inj ((h.2.2 _).mpr ?_) e, fun e => by rw [e]⟩
  rw [List.getD_eq_getElem?_getD, List.getElem?_eq_getElem hi]
  exact List.getElem_mem hi
/-- by first places -/
theorem plcs_firsts (l : List Nat) : plcs l = (firsts l).map fun at_ => (List.range l.length).filter fun i => decide (l.getD i 0 = l.getD at_ 0) := by
  unfold plcs
  rw [← firsts_ren, List.map_map]
  refine List.map_congr_left fun j hj => ?_
  have hj : j < l.length := by
    unfold firsts at hj
    exact List.mem_range.mp ((List.mem_filter.mp hj).1)
  show (List.range l.length).filter (fun i => decide ((renum l).getD i 0 = (renum l).getD j 0)) = _
  refine List.filter_congr fun i hi => ?_
  have hi := List.mem_range.mp hi
  rw [decide_eq_decide]
  exact ren_iff hi hj
end FM
end
section
set_option linter.all false
set_option maxRecDepth 100000
namespace FL
open PySem PySem.Spec PyProof.Rows L2 DL FM
theorem a1 {f : FE} {env : Ev} {d : D} (h : f env = .ret d) : aVal f aNil env = .ret [.val d] := by
  unfold aVal aNil
  rw [h]
  rfl
theorem aC {f : FE} {r : FA} {env : Ev} {d : D} {ss : List Slot} (h : f env = .ret d) (hr : r env = .ret ss) : aVal f r env = .ret (.val d :: ss) := by
  unfold aVal
  rw [h, bret, hr]
  rfl
theorem call_r {F : List Slot → Tr D} {r : FA} {env : Ev} {ss : List Slot} {t : Tr D} (h : r env = .ret ss) (hF : F ss = t) : eCall F r env = t := by
  unfold eCall
  rw [h, bret, hF]
theorem aR {n : Nat} {idx : List Nat} {r : FA} {env : Ev} {ss : List Slot} (h : r env = .ret ss) : aReo n idx r env = .ret (reo n idx (.val .none) ss) := by
  unfold aReo
  rw [h]
  rfl
/-! ### closed rows -/
abbrev bClose : FS := sSet 2 (eCall m_merged (aVal (eVar 2) (aVal (e2 dIx (eVar 2) (eVar 3)) (aVal (e2 dIx (eVar 2) (e2 dAddA (eVar 0) (eVar 3))) aNil))))
theorem v_closed {c : Nat} {A : List Nat} (h5 : c ≤ 5) (hA : Val c A) : m_closed_places [.val (nI c), .val (fD A)] = .ret (fD (renum ((clR c A).take c))) := by
  have lA := hA.len
  let e1 : Ev := [some (.val (nI c)), some (.val (fD A)), some (.val (lD A)), none]
  have s1 : sSet 2 (eCB dList (lCons (eVar 1) lNil)) (startE 4 [.val (nI c), .val (fD A)]) = .ret (.nx e1) := rfl
  have key : ∀ (i : Nat) (L : List Nat) (x : Nat) (env : Ev), (List.range c)[i]? = some x → (∃ d3, env = [some (.val (nI c)), some (.val (fD A)), some (.val (lD L)), d3] ∧ L.length = 2 * c) →
      ∃ env1 env2, gN 3 (nI x) env = some env1 ∧ bClose env1 = .ret (.nx env2) ∧ ∃ d3, env2 = [some (.val (nI c)), some (.val (fD A)), some (.val (lD (merN L (L.getD x 0) (L.getD (c + x) 0)))), d3] ∧ (merN L (L.getD x 0) (L.getD (c + x) 0)).length = 2 * c := by
    rintro i L x env hx ⟨d3, e, hL⟩
    have hxc := rngx hx
    subst e
    let f0 : Ev := [some (.val (nI c)), some (.val (fD A)), some (.val (lD L)), some (.val (nI x))]
    refine ⟨f0, [some (.val (nI c)), some (.val (fD A)), some (.val (lD (merN L (L.getD x 0) (L.getD (c + x) 0)))), some (.val (nI x))], rfl, ?_, _, rfl, by rw [merN_len, hL]⟩
    have i1 : e2 dIx (eVar 2) (eVar 3) f0 = .ret (nI (L.getD x 0)) := e2_r (x := lD L) (y := nI x) rfl rfl (atL (by omega))
    have i2 : e2 dIx (eVar 2) (e2 dAddA (eVar 0) (eVar 3)) f0 = .ret (nI (L.getD (c + x) 0)) := e2_r (x := lD L) rfl (e2_r (x := nI c) (y := nI x) rfl rfl nI_add) (atL (by omega))
    have i3 : eCall m_merged (aVal (eVar 2) (aVal (e2 dIx (eVar 2) (eVar 3)) (aVal (e2 dIx (eVar 2) (e2 dAddA (eVar 0) (eVar 3))) aNil))) f0 = .ret (lD (merN L (L.getD x 0) (L.getD (c + x) 0))) := by
      exact call_r (aC (d := lD L) rfl (aC i1 (a1 i2))) (v_merged (by omega))
    exact set_nx i3
  obtain ⟨env', g1, d3, e, hL⟩ := for_all (tgt := gN 3) (dd := nI) _ (fun L i => merN L (L.getD i 0) (L.getD (c + i) 0)) (xs := List.range c) (s := A) (env := e1) ⟨none, rfl, lA⟩ key
  have e : env' = [some (.val (nI c)), some (.val (fD A)), some (.val (lD (clR c A))), d3] := e
  have s2 : sForR (lCons (eVar 0) lNil) (gN 3) bClose e1 = .ret (.nx env') := (forR_n (n := c) rfl (by omega)).trans g1
  subst e
  have s3 : eCall m_renumbered (aVal (eSl dSlA (eVar 2) oNone (oSome (eVar 0))) aNil) [some (.val (nI c)), some (.val (fD A)), some (.val (lD (clR c A))), d3] = .ret (fD (renum ((clR c A).take c))) := by
    have a : eSl dSlA (eVar 2) oNone (oSome (eVar 0)) [some (.val (nI c)), some (.val (fD A)), some (.val (lD (clR c A))), d3] = .ret (lD ((clR c A).take c)) := by
      show Tr.ofOpt (some (PyData.list (DL.cutD (nL (clR c A)) none (some (c : Int))))) = _
      rw [cut_take]
      rfl
    exact call_r (a1 a) (v_renumbered (by rw [List.length_take]; omega))
  unfold m_closed_places
  refine fn_v (d := fD (renum ((clR c A).take c))) ?_
  refine (seq_nx (env := startE 4 [.val (nI c), .val (fD A)]) s1).trans ((seq_nx s2).trans ?_)
  exact ret_rv s3
theorem cl_len {c : Nat} {A : List Nat} (hA : Val c A) : ((clR c A).take c).length = c := by
  rw [List.length_take, (clR_ok hA).1]
  omega
theorem cl_ne {c : Nat} {A : List Nat} (h1 : 1 ≤ c) (hA : Val c A) : (clR c A).take c ≠ [] := fun e => by
  have := cl_len hA
  rw [e] at this
  simp at this
  omega
theorem v_many_rings {c : Nat} {A : List Nat} (h1 : 1 ≤ c) (h5 : c ≤ 5) (hA : Val c A) : m_many_rings [.val (nI c), .val (fD A)] = .ret (nI (ringsL c A)) := by
  obtain ⟨mx, hp⟩ := max_ren (cl_ne h1 hA)
  have rc := (clR_take hA).2
  have a : eCB dMax1 (lCons (eCall m_closed_places (aVal (eVar 0) (aVal (eVar 1) aNil))) lNil) (startE 2 [.val (nI c), .val (fD A)]) = .ret (nI (cnt ((clR c A).take c) - 1)) := by
    have q : eCall m_closed_places (aVal (eVar 0) (aVal (eVar 1) aNil)) (startE 2 [.val (nI c), .val (fD A)]) = .ret (fD (renum ((clR c A).take c))) := call_r (aC (d := nI c) rfl (a1 (d := fD A) rfl)) (v_closed h5 hA)
    unfold eCB
    rw [lc1 q, bret, mx]
    rfl
  unfold m_many_rings
  refine fn_v (d := nI (ringsL c A)) (ret_rv (e2_r a (y := nI 1) rfl ?_))
  rw [nI_add, Nat.sub_add_cancel hp, rc]
theorem expr_nx {f : FE} {env : Ev} {d : D} (h : f env = .ret d) : sExpr f env = .ret (.nx env) := by
  unfold sExpr
  rw [h]
  rfl
theorem v_rings {c : Nat} {A : List Nat} (h1 : 1 ≤ c) (h5 : c ≤ 5) (hA : Val c A) : m_rings [.val (nI c), .val (fD A)] = .ret (nI (ringsL c A)) := by
  unfold m_rings
  refine fn_v (d := nI (ringsL c A)) ?_
  refine (seq_nx (expr_nx (call_r (a1 (d := nI c) rfl) (v_need_cords h1 h5)))).trans ((seq_nx (expr_nx (call_r (aC (d := nI c) rfl (a1 (d := fD A) rfl)) (v_need_figure h5 hA)))).trans ?_)
  exact ret_rv (call_r (aC (d := nI c) rfl (a1 (d := fD A) rfl)) (v_many_rings h1 h5 hA))
/-! ### pieces by their points -/
theorem put_pts : ∀ (xs : List Nat) (p : Nat) (cs : List (List Nat)), (∀ x ∈ xs, x < cs.length) → putPts p (xs.map fun (n : Nat) => (n : Int)) (cs.map fun l => l.map fun (n : Nat) => (n : Int)) = ((List.range cs.length).map fun k => cs.getD k [] ++ posN p xs k).map fun l => l.map fun (n : Nat) => (n : Int)
  | [], p, cs, _ => by
    show cs.map _ = _
    congr 1
    unfold posN
    apply List.ext_getElem
    · simp
    · intro i h1 h2
      simp [List.getElem?_eq_getElem h1]
  | x :: xs, p, cs, h => by
    have hx : x < cs.length := h x List.mem_cons_self
    rw [List.map_cons]
    show putPts (p + 1) (xs.map fun (n : Nat) => (n : Int)) ((cs.map fun l => l.map fun (n : Nat) => (n : Int)).set (x : Int).toNat ((cs.map fun l => l.map fun (n : Nat) => (n : Int)).getD (x : Int).toNat [] ++ [(p : Int)])) = _
    have e1 : (cs.map fun l => l.map fun (n : Nat) => (n : Int)).set (x : Int).toNat ((cs.map fun l => l.map fun (n : Nat) => (n : Int)).getD (x : Int).toNat [] ++ [(p : Int)]) = (cs.set x (cs.getD x [] ++ [p])).map fun l => l.map fun (n : Nat) => (n : Int) := by
      rw [List.map_set, Int.toNat_natCast]
      congr 1
      rw [List.map_append]
      simp [List.getD_eq_getElem?_getD, hx]
    rw [e1, put_pts xs (p + 1) (cs.set x (cs.getD x [] ++ [p])) fun y hy => by rw [List.length_set]; exact h y (List.mem_cons_of_mem _ hy), List.length_set]
    congr 1
    refine List.map_congr_left fun k hk => ?_
    have hk := List.mem_range.mp hk
    conv => rhs; unfold posN
    by_cases z : x = k
    · subst z
      simp [List.getD_eq_getElem?_getD, hx]
    · rw [if_neg z]
      simp [List.getD_eq_getElem?_getD, List.getElem?_set_ne z]
def ppD (ls : List (List Nat)) : D := .tuple (ls.map fun l => fD l)
theorem v_pieces {l : List Nat} (hn : l ≠ []) (hl : l.length ≤ 900) : fPieces [.val (fD (renum l))] = .ret (ppD (plcs l)) := by
  have hren := renum_len l
  have hp := (max_ren hn).2
  have hc : cnt l ≤ 900 := Nat.le_trans (cnt_len l) hl
  cases hr : renum l with
  | nil => rw [hr] at hren; exact absurd (List.length_eq_zero_iff.mp hren.symm) hn
  | cons n ns =>
    have hlt : ∀ x ∈ n :: ns, x < cnt l := fun x hx => renum_lt (by rw [hr]; exact hx)
    have mx : maxI (n : Int) (ns.map fun (n : Nat) => (n : Int)) = ((cnt l - 1 : Nat) : Int) := (max_uniq (by
      have q := renum_onto (l := l) (n := cnt l - 1) (by omega)
      rw [hr] at q
      rw [← List.map_cons (f := fun (n : Nat) => (n : Int))]
      exact List.mem_map.mpr ⟨_, q, rfl⟩) fun y hy => by
      rw [← List.map_cons (f := fun (n : Nat) => (n : Int))] at hy
      obtain ⟨z, hz, rfl⟩ := List.mem_map.mp hy
      have := hlt z hz
      omega).symm
    have dn : dNums (nL (n :: ns)) = some ((n : Int) :: ns.map fun (n : Nat) => (n : Int)) := nums_n (n :: ns)
    show (match dNums (nL (n :: ns)) with
      | some (n :: ns) => if (∀ x ∈ n :: ns, 0 ≤ x ∧ x < 1000) ∧ (n :: ns).length ≤ 1000 then .ret (.tuple ((putPts 0 (n :: ns) (List.replicate (maxI n ns + 1).toNat [])).map fun c => .tuple (c.map PyData.int))) else .fail
      | _ => .fail : Tr D) = _
    rw [dn]
    dsimp only
    rw [if_pos ⟨fun x hx => by
      rw [← List.map_cons (f := fun (n : Nat) => (n : Int))] at hx
      obtain ⟨z, hz, rfl⟩ := List.mem_map.mp hx
      have := hlt z hz
      omega, by
      rw [List.length_cons, List.length_map, ← List.length_cons (a := n), ← hr, hren]
      omega⟩, mx]
    have rep : List.replicate (((cnt l - 1 : Nat) : Int) + 1).toNat ([] : List Int) = (List.replicate (cnt l) ([] : List Nat)).map fun l => l.map fun (n : Nat) => (n : Int) := by
      rw [List.map_replicate, show (((cnt l - 1 : Nat) : Int) + 1).toNat = cnt l by omega]
      rfl
    have q := put_pts (n :: ns) 0 (List.replicate (cnt l) []) fun x hx => by rw [List.length_replicate]; exact hlt x hx
    rw [List.map_cons] at q
    rw [rep, q, List.length_replicate]
    unfold ppD plcs fD nL
    rw [List.map_map, List.map_map, List.map_map]
    congr 2
    refine List.map_congr_left fun k hk => ?_
    have hk := List.mem_range.mp hk
    show PyData.tuple ((((List.replicate (cnt l) ([] : List Nat)).getD k [] ++ posN 0 (n :: ns) k).map fun (n : Nat) => (n : Int)).map PyData.int) = PyData.tuple _
    congr 1
    have e0 : (List.replicate (cnt l) ([] : List Nat)).getD k [] = [] := by simp [List.getD_eq_getElem?_getD, hk]
    rw [e0, List.nil_append, posN_eq, ← hr, hren, List.map_map, List.map_map]
    refine List.map_congr_left fun i _ => ?_
    show PyData.int ((0 + i : Nat) : Int) = nI i
    rw [Nat.zero_add]
    rfl
theorem v_ring_pieces {c : Nat} {A : List Nat} (h1 : 1 ≤ c) (h5 : c ≤ 5) (hA : Val c A) : m_ring_pieces [.val (nI c), .val (fD A)] = .ret (ppD (plcs ((clR c A).take c))) := by
  unfold m_ring_pieces
  refine fn_v (d := ppD (plcs ((clR c A).take c))) ?_
  refine (seq_nx (expr_nx (call_r (a1 (d := nI c) rfl) (v_need_cords h1 h5)))).trans ((seq_nx (expr_nx (call_r (aC (d := nI c) rfl (a1 (d := fD A) rfl)) (v_need_figure h5 hA)))).trans ?_)
  have q : eCall m_closed_places (aVal (eVar 0) (aVal (eVar 1) aNil)) (startE 2 [.val (nI c), .val (fD A)]) = .ret (fD (renum ((clR c A).take c))) := call_r (aC (d := nI c) rfl (a1 (d := fD A) rfl)) (v_closed h5 hA)
  exact ret_rv (call_r (a1 q) (v_pieces (cl_ne h1 hA) (by rw [cl_len hA]; omega)))
theorem plcs_len (l : List Nat) : (plcs l).length = cnt l := by unfold plcs; rw [List.length_map, List.length_range]
end FL
end
section
set_option linter.all false
set_option maxRecDepth 100000
namespace DL
open PySem PySem.Spec PyProof.Rows L2
/-! ### the very same data, as a Bool -/
mutual
def beD : D → D → Bool
  | .none, y => match y with | .none => true | _ => false
  | .bool a, y => match y with | .bool b => a == b | _ => false
  | .int a, y => match y with | .int b => decide (a = b) | _ => false
  | .str a, y => match y with | .str b => decide (a = b) | _ => false
  | .list a, y => match y with | .list b => beDs a b | _ => false
  | .tuple a, y => match y with | .tuple b => beDs a b | _ => false
  | .dict a, y => match y with | .dict b => beKs a b | _ => false
def beDs : List D → List D → Bool
  | [], y => match y with | [] => true | _ => false
  | x :: xs, y => match y with | z :: zs => beD x z && beDs xs zs | _ => false
def beKs : List (D × D) → List (D × D) → Bool
  | [], y => match y with | [] => true | _ => false
  | (k, v) :: xs, y => match y with | (k2, v2) :: zs => (beD k k2 && beD v v2) && beKs xs zs | _ => false
end
mutual
theorem beD_ok : ∀ (x y : D), beD x y = true → x = y
  | .none, y, h => by cases y <;> first | rfl | (simp [beD] at h)
  | .bool a, y, h => by cases y <;> first | (simp [beD] at h; done) | (simp [beD] at h; rw [h])
  | .int a, y, h => by cases y <;> first | (simp [beD] at h; done) | (simp [beD] at h; rw [h])
  | .str a, y, h => by cases y <;> first | (simp [beD] at h; done) | (simp [beD] at h; rw [h])
  | .list a, y, h => by
    cases y with
    | list b => rw [beD] at h; rw [beDs_ok a b h]
    | _ => simp [beD] at h
  | .tuple a, y, h => by
    cases y with
    | tuple b => rw [beD] at h; rw [beDs_ok a b h]
    | _ => simp [beD] at h
  | .dict a, y, h => by
    cases y with
    | dict b => rw [beD] at h; rw [beKs_ok a b h]
    | _ => simp [beD] at h
theorem beDs_ok : ∀ (x y : List D), beDs x y = true → x = y
  | [], y, h => by cases y <;> first | rfl | (simp [beDs] at h)
  | x :: xs, y, h => by
    cases y with
    | nil => simp [beDs] at h
    | cons z zs =>
      rw [beDs, Bool.and_eq_true] at h
      rw [beD_ok x z h.1, beDs_ok xs zs h.2]
theorem beKs_ok : ∀ (x y : List (D × D)), beKs x y = true → x = y
  | [], y, h => by cases y <;> first | rfl | (simp [beKs] at h)
  | (k, v) :: xs, y, h => by
    cases y with
    | nil => simp [beKs] at h
    | cons z zs =>
      obtain ⟨k2, v2⟩ := z
      rw [beKs, Bool.and_eq_true, Bool.and_eq_true] at h
      rw [beD_ok k k2 h.1.1, beD_ok v v2 h.1.2, beKs_ok xs zs h.2]
end
/-- a run without draws that comes to d -/
def isRet (t : Tr D) (d : D) : Bool := match t with
  | .ret x => beD x d
  | _ => false
theorem isRet_ok {t : Tr D} {d : D} (h : isRet t d = true) : t = .ret d := by
  cases t with
  | ret x => rw [beD_ok x d h]
  | _ => cases h
/-- all ends of a run with b draws -/
def chk {α : Type} (p : α → Bool) : Tr α → Nat → Bool
  | .ret a, _ => p a
  | .fail, _ => false
  | .draw _ _, 0 => false
  | .draw n k, b + 1 => (List.range n).all fun i => chk p (k i) b
theorem chk_ok {α : Type} {p : α → Bool} : ∀ {t : Tr α} {b : Nat}, chk p t b = true → t.All b fun a _ => p a = true
  | .ret a, b, h => h
  | .fail, b, h => by cases b <;> cases h
  | .draw n k, 0, h => by cases h
  | .draw n k, b + 1, h => ⟨b, rfl, fun i hi => chk_ok (List.all_eq_true.mp (show ((List.range n).all fun i => chk p (k i) b) = true from h) i (List.mem_range.mpr hi))⟩
end DL
end
section
set_option linter.all false
set_option maxRecDepth 100000
namespace FL
open PySem PySem.Spec PyProof.Rows L2 DL FM
/-! ### runs with draws: at most n of them, P of what comes -/
structure Ok {α : Type} (t : Tr α) (n : Nat) (P : α → Prop) : Prop where
  run : ∀ b, n ≤ b → t.All b fun a c => b ≤ c + n ∧ P a
theorem Ok.ret {α : Type} {a : α} {P : α → Prop} (h : P a) : Ok (.ret a) 0 P := ⟨fun b _ => ⟨Nat.le_refl _, h⟩⟩
theorem Ok.of {α : Type} {t : Tr α} {a : α} {P : α → Prop} (e : t = .ret a) (h : P a) : Ok t 0 P := by
  rw [e]
  exact Ok.ret h
theorem Ok.mono {α : Type} {t : Tr α} {n m : Nat} {P Q : α → Prop} (h : Ok t n P) (hn : n ≤ m) (k : ∀ a, P a → Q a) : Ok t m Q := ⟨fun b hb =>
  Tr.All_mono (h.run b (by omega)) fun a c ⟨h1, h2⟩ => ⟨by omega, k a h2⟩⟩
theorem Ok.bind {α β : Type} {t : Tr α} {f : α → Tr β} {n m : Nat} {P : α → Prop} {Q : β → Prop} (h : Ok t n P) (k : ∀ a, P a → Ok (f a) m Q) : Ok (t.bind f) (n + m) Q := by
  refine ⟨fun b hb => ?_⟩
  refine (Tr.All_bind _ _ _ _).mpr (Tr.All_mono (h.run b (by omega)) fun a c ⟨h1, h2⟩ => Tr.All_mono ((k a h2).run c (by omega)) fun x d ⟨h3, h4⟩ => ⟨by omega, h4⟩)
theorem All_add {α : Type} {P : α → Nat → Prop} (k : Nat) : ∀ {t : Tr α} {b : Nat}, t.All b P → t.All (b + k) fun a c => ∃ c', c = c' + k ∧ P a c'
  | .ret a, b, h => ⟨b, rfl, h⟩
  | .fail, b, h => h
  | .draw n f, b, ⟨c, e, h⟩ => ⟨c + k, by omega, fun i hi => All_add k (h i hi)⟩
theorem Ok.chk {α : Type} {t : Tr α} {p : α → Bool} {n : Nat} (h : chk p t n = true) : Ok t n fun a => p a = true := by
  refine ⟨fun b hb => ?_⟩
  have q := All_add (b - n) (chk_ok h)
  rw [show n + (b - n) = b by omega] at q
  exact Tr.All_mono q fun a c ⟨c', e, z⟩ => ⟨by omega, z⟩
theorem ok_draw {l : Nat} (h1 : 1 ≤ l) (h2 : l < 1000) : Ok (m_law_draw [.orc, .val (nI l)]) 1 fun d => ∃ i, i < l ∧ d = nI i := by
  refine ⟨fun b hb => ?_⟩
  have e : m_law_draw [.orc, .val (nI l)] = .draw l fun i => .ret (nI i) := by
    show (if 1 ≤ (l : Int) ∧ (l : Int) < 1073741824 then Tr.draw (l : Int).toNat fun i => Tr.ret (PyData.int (i : Nat)) else Tr.fail : Tr D) = _
    rw [if_pos (by omega), Int.toNat_natCast]
    rfl
  rw [e]
  exact ⟨b - 1, by omega, fun i hi => ⟨by omega, i, hi, rfl⟩⟩
theorem comp_ok {tgt : FG} {t : FT} {fe : FE} {env : Ev} {P : D → Prop} {k : Nat} : ∀ (ds : List D), (∀ d ∈ ds, ∃ env1, tgt d env = some env1 ∧ t env1 = .ret true ∧ Ok (fe env1) k P) → Ok (compD tgt t fe env ds) (k * ds.length) fun ys => ys.length = ds.length ∧ ∀ y ∈ ys, P y
  | [], _ => Ok.ret ⟨rfl, fun _ h => nomatch h⟩
  | d :: ds, h => by
    obtain ⟨e1, h1, h2, h3⟩ := h d List.mem_cons_self
    have e : compD tgt t fe env (d :: ds) = (fe e1).bind fun y => (compD tgt t fe env ds).bind fun ys => .ret (y :: ys) := by
      rw [compD, h1]
      dsimp only
      rw [h2, bret, if_pos rfl]
    rw [e]
    have q := Ok.bind (m := k * ds.length + 0) h3 fun y hy => Ok.bind (f := fun ys => .ret (y :: ys)) (Q := fun zs : List D => zs.length = (d :: ds).length ∧ ∀ z ∈ zs, P z) (comp_ok ds fun d hd => h d (List.mem_cons_of_mem _ hd)) fun ys ⟨hl, hy2⟩ => Ok.ret ⟨by rw [List.length_cons, List.length_cons, hl], fun z hz => by
      rcases List.mem_cons.mp hz with e | hz
      · rw [e]; exact hy
      · exact hy2 z hz⟩
    refine q.mono ?_ fun _ h => h
    rw [List.length_cons, Nat.mul_succ]
    omega
theorem end_ok {tgt : FG} {t : FT} {fe : FE} {env : Ev} {P : D → Prop} {k : Nat} {ds : List D} (hl : ds.length ≤ 1000) (h : ∀ d ∈ ds, ∃ env1, tgt d env = some env1 ∧ t env1 = .ret true ∧ Ok (fe env1) k P) : Ok (endComp tgt t fe env ds) (k * ds.length) fun d => ∃ ys, d = .list ys ∧ ys.length = ds.length ∧ ∀ y ∈ ys, P y := by
  unfold endComp
  rw [if_pos (sl1000 hl)]
  exact (Ok.bind (comp_ok ds h) fun ys ⟨h1, h2⟩ => Ok.ret ⟨ys, rfl, h1, h2⟩).mono (by omega) fun _ h => h
theorem nL_of {P : Nat → Prop} : ∀ {ys : List D}, (∀ y ∈ ys, ∃ i, P i ∧ y = nI i) → ∃ zs : List Nat, ys = nL zs ∧ ∀ z ∈ zs, P z
  | [], _ => ⟨[], rfl, fun _ h => nomatch h⟩
  | y :: ys, h => by
    obtain ⟨i, h1, rfl⟩ := h y List.mem_cons_self
    obtain ⟨zs, e, h2⟩ := nL_of (ys := ys) fun y hy => h y (List.mem_cons_of_mem _ hy)
    exact ⟨i :: zs, by rw [e]; rfl, fun z hz => by
      rcases List.mem_cons.mp hz with e | hz
      · rw [e]; exact h1
      · exact h2 z hz⟩
theorem ok_fn {n : Nat} {k : Kd} {fb : FS} {ss : List Slot} {m : Nat} {P : D → Prop} (h : Ok (fb (startE n ss)) m fun o => ∃ d, o = .rv d ∧ P d) : Ok (fnF n k fb ss) m P := by
  unfold fnF
  refine (Ok.bind (m := 0) h fun o ⟨d, e, hd⟩ => ?_).mono (by omega) fun _ h => h
  rw [e]
  exact Ok.ret hd
theorem ok_sret {f : FE} {env : Ev} {m : Nat} {P : D → Prop} (h : Ok (f env) m P) : Ok (sRet f env) m fun o => ∃ d, o = .rv d ∧ P d := by
  unfold sRet
  exact (Ok.bind (m := 0) h fun d hd => Ok.ret ⟨d, rfl, hd⟩).mono (by omega) fun _ h => h
theorem ok_call {F : List Slot → Tr D} {r : FA} {env : Ev} {n m : Nat} {P : List Slot → Prop} {Q : D → Prop} (h : Ok (r env) n P) (k : ∀ ss, P ss → Ok (F ss) m Q) : Ok (eCall F r env) (n + m) Q := Ok.bind h k
theorem ok_a1 {f : FE} {env : Ev} {n : Nat} {P : D → Prop} (h : Ok (f env) n P) : Ok (aVal f aNil env) n fun ss => ∃ d, ss = [.val d] ∧ P d := by
  unfold aVal aNil
  exact (Ok.bind (m := 0) h fun d hd => Ok.of (a := [.val d]) rfl ⟨d, rfl, hd⟩).mono (by omega) fun _ h => h
/-! ### a drawn figure -/
def fSome : FE := eCompR (lCons (e2 dMul (eC (.int 2)) (eVar 1)) lNil) (gN 2) fYes (eCall m_law_draw (aOrc 0 (aVal (e2 dAddA (eC (.int 1)) (e2 dMul (eC (.int 2)) (eVar 1))) aNil))) [2]
theorem ok_fSome {c : Nat} (h1 : 1 ≤ c) (h5 : c ≤ 5) {env : Ev} (w0 : env[0]? = some (some .orc)) (w1 : env[1]? = some (some (.val (nI c)))) : Ok (fSome env) (2 * c) fun d => ∃ zs : List Nat, zs.length = 2 * c ∧ d = lD zs := by
  have v1 : ∀ env : Ev, env[1]? = some (some (.val (nI c))) → eVar 1 env = .ret (nI c) := fun env h => by
    unfold eVar
    rw [h]
  have m2 : ∀ env : Ev, env[1]? = some (some (.val (nI c))) → e2 dMul (eC (.int 2)) (eVar 1) env = .ret (nI (2 * c)) := fun env h => e2_r (x := nI 2) (y := nI c) rfl (v1 env h) (nI_mul (by decide))
  have e1 : fSome env = endComp (gN 2) fYes (eCall m_law_draw (aOrc 0 (aVal (e2 dAddA (eC (.int 1)) (e2 dMul (eC (.int 2)) (eVar 1))) aNil))) (wipeE env [2]) ((List.range (2 * c)).map nI) := by
    unfold fSome
    rw [compR_eq (lc1 (m2 env w1)) (rngOf_n (n := 2 * c) (by omega)), rng_n]
  have q := end_ok (tgt := gN 2) (t := fYes) (fe := eCall m_law_draw (aOrc 0 (aVal (e2 dAddA (eC (.int 1)) (e2 dMul (eC (.int 2)) (eVar 1))) aNil))) (env := wipeE env [2]) (P := fun d => ∃ i, i < 1 + 2 * c ∧ d = nI i) (k := 1) (ds := (List.range (2 * c)).map nI) (by rw [List.length_map, List.length_range]; omega) fun d _ => by
    refine ⟨(wipeE env [2]).set 2 (some (.val d)), rfl, rfl, ?_⟩
    have u0 : ((wipeE env [2]).set 2 (some (.val d)))[0]? = some (some .orc) := by
      rw [List.getElem?_set_ne (by decide)]
      show (env.set 2 none)[0]? = _
      rw [List.getElem?_set_ne (by decide), w0]
    have u1 : ((wipeE env [2]).set 2 (some (.val d)))[1]? = some (some (.val (nI c))) := by
      rw [List.getElem?_set_ne (by decide)]
      show (env.set 2 none)[1]? = _
      rw [List.getElem?_set_ne (by decide), w1]
    have a : e2 dAddA (eC (.int 1)) (e2 dMul (eC (.int 2)) (eVar 1)) ((wipeE env [2]).set 2 (some (.val d))) = .ret (nI (1 + 2 * c)) := e2_r (x := nI 1) rfl (m2 _ u1) nI_add
    have b : aOrc 0 (aVal (e2 dAddA (eC (.int 1)) (e2 dMul (eC (.int 2)) (eVar 1))) aNil) ((wipeE env [2]).set 2 (some (.val d))) = .ret [.orc, .val (nI (1 + 2 * c))] := by
      unfold aOrc
      rw [u0]
      dsimp only
      rw [a1 a]
      rfl
    unfold eCall
    rw [b, bret]
    exact ok_draw (by omega) (by omega)
  have ll : ((List.range (2 * c)).map nI).length = 2 * c := by rw [List.length_map, List.length_range]
  rw [Nat.one_mul] at q
  rw [e1]
  refine Ok.mono q (Nat.le_of_eq ll) ?_
  rintro d ⟨ys, e, hl, hy⟩
  obtain ⟨zs, ez, _⟩ := nL_of hy
  refine ⟨zs, ?_, by rw [e, ez]⟩
  rw [← nL_len, ← ez, hl, List.length_map, List.length_range]
theorem ok_named {t : Tr D} {c n : Nat} (h5 : c ≤ 5) (h : Ok t n fun d => ∃ zs : List Nat, zs.length = 2 * c ∧ d = lD zs) : Ok (t.bind fun d => m_law_named [.val d]) n fun d => ∃ xs, Val c xs ∧ d = fD xs := by
  refine (Ok.bind (m := 0) h ?_).mono (Nat.le_refl _) fun _ h => h
  rintro d ⟨zs, hl, e⟩
  subst e
  have w := v_named (xs := zs) (by omega)
  exact Ok.of (a := fD (renum zs)) w ⟨renum zs, ⟨by rw [renum_len, hl], renum_idem _⟩, rfl⟩
theorem call_bind {F : List Slot → Tr D} {f : FE} {env : Ev} : eCall F (aVal f aNil) env = (f env).bind fun d => F [.val d] := by
  unfold eCall aVal aNil
  have as : ∀ t : Tr D, ((t.bind fun d => (Tr.ret []).bind fun ss => Tr.ret (Slot.val d :: ss)).bind F) = t.bind fun d => F [.val d] := fun t => by
    induction t with
    | ret a => rfl
    | fail => rfl
    | draw n k ih => exact congrArg (Tr.draw n) (funext ih)
  exact as _
theorem ok_some_figure {c : Nat} (h1 : 1 ≤ c) (h5 : c ≤ 5) : Ok (m_law_some_figure [.orc, .val (nI c)]) (2 * c) fun d => ∃ xs, Val c xs ∧ d = fD xs := by
  have e : m_law_some_figure = fnF 3 .v (sRet (eCall m_law_named (aVal fSome aNil))) := rfl
  rw [e]
  refine ok_fn ?_
  refine ok_sret ?_
  rw [call_bind]
  have q := @ok_fSome c h1 h5 (startE 3 [.orc, .val (nI c)]) rfl rfl
  generalize fSome (startE 3 [.orc, .val (nI c)]) = t at q ⊢
  exact ok_named h5 q
end FL
end
section
set_option linter.all false
set_option maxRecDepth 100000
namespace FL
open PySem PySem.Spec PyProof.Rows L2 DL FM
/-! ### deeds -/
abbrev Deed := Nat × Nat
def wD : Nat → D
  | 0 => .str "cut"
  | 1 => .str "hook"
  | 2 => .str "join"
  | _ => .str "swap"
def dD (d : Deed) : D := .tuple [wD d.1, nI d.2]
def most (c w : Nat) : Nat := if w = 0 then c else c - 1
def deedsOf (c : Nat) (ws : List Nat) : List Deed := ws.flatMap fun w => (List.range (most c w)).map fun p => (w, p)
def dF (c : Nat) (d : Deed) : List Nat :=
  let b := List.range c ++ List.range c
  renum (match d.1 with
  | 0 => b.set (c + d.2) c
  | 1 => ((b.set (d.2 + 1) d.2).set (c + d.2) c).set (c + d.2 + 1) c
  | 2 => ((b.set (d.2 + 1) d.2).set (c + d.2) d.2).set (c + d.2 + 1) d.2
  | _ => (b.set (c + d.2) (d.2 + 1)).set (c + d.2 + 1) d.2)
def fams : List (List Nat) := [[0], [1], [0, 1], [2], [0, 2], [1, 2], [0, 1, 2], [3], [0, 3], [1, 3], [0, 1, 3], [2, 3], [0, 2, 3], [1, 2, 3], [0, 1, 2, 3]]
def famD (ws : List Nat) : D := .tuple (ws.map wD)
def cords : List Nat := [1, 2, 3, 4, 5]
theorem in_cords {c : Nat} (h1 : 1 ≤ c) (h5 : c ≤ 5) : c ∈ cords := by
  have : c = 1 ∨ c = 2 ∨ c = 3 ∨ c = 4 ∨ c = 5 := by omega
  rcases this with rfl | rfl | rfl | rfl | rfl <;> simp [cords]
def deedB (c : Nat) (d : Deed) : Bool := isRet (m_law_deed [.val (nI c), .val (dD d)]) (fD (dF c d)) && isRet (m_figure_of_deed [.val (nI c), .val (dD d)]) (fD (dF c d)) && isRet (m_is_deed [.val (nI c), .val (dD d)]) (.bool true) && decide ((dF c d).length = 2 * c) && decide (renum (dF c d) = dF c d)
theorem deeds_all : (cords.all fun c => (deedsOf c [0, 1, 2, 3]).all fun d => deedB c d) = true := by decide +kernel
structure DeedOk (c : Nat) (d : Deed) : Prop where
  law : m_law_deed [.val (nI c), .val (dD d)] = .ret (fD (dF c d))
  prog : m_figure_of_deed [.val (nI c), .val (dD d)] = .ret (fD (dF c d))
  isd : m_is_deed [.val (nI c), .val (dD d)] = .ret (.bool true)
  val : Val c (dF c d)
theorem deed_ok {c : Nat} (h1 : 1 ≤ c) (h5 : c ≤ 5) {d : Deed} (hd : d ∈ deedsOf c [0, 1, 2, 3]) : DeedOk c d := by
  have h := List.all_eq_true.mp (List.all_eq_true.mp deeds_all c (in_cords h1 h5)) d hd
  unfold deedB at h
  rw [Bool.and_eq_true, Bool.and_eq_true, Bool.and_eq_true, Bool.and_eq_true] at h
  exact ⟨isRet_ok h.1.1.1.1, isRet_ok h.1.1.1.2, isRet_ok h.1.1.2, ⟨of_decide_eq_true h.1.2, of_decide_eq_true h.2⟩⟩
/-- the deeds of a family, and whether there are none -/
def famB (c : Nat) (ws : List Nat) : Bool := isRet (m_law_deeds [.val (nI c), .val (famD ws)]) (.list ((deedsOf c ws).map dD)) && (match dEq (.list ((deedsOf c ws).map dD)) (.list []) with | some (.bool b) => b == (deedsOf c ws).isEmpty | _ => false) && (deedsOf c ws).all fun d => (deedsOf c [0, 1, 2, 3]).contains d
theorem fams_all : (cords.all fun c => fams.all fun ws => famB c ws) = true := by decide +kernel
theorem fam_ok {c : Nat} (h1 : 1 ≤ c) (h5 : c ≤ 5) {ws : List Nat} (hw : ws ∈ fams) : m_law_deeds [.val (nI c), .val (famD ws)] = .ret (.list ((deedsOf c ws).map dD)) ∧ dEq (.list ((deedsOf c ws).map dD)) (.list []) = some (.bool (deedsOf c ws).isEmpty) ∧ ∀ d ∈ deedsOf c ws, d ∈ deedsOf c [0, 1, 2, 3] := by
  have h := List.all_eq_true.mp (List.all_eq_true.mp fams_all c (in_cords h1 h5)) ws hw
  unfold famB at h
  rw [Bool.and_eq_true, Bool.and_eq_true] at h
  refine ⟨isRet_ok h.1.1, ?_, fun d hd => ?_⟩
  · have q := h.1.2
    split at q
    · rename_i b e
      rw [e, eq_of_beq q]
    · cases q
  · have q := List.all_eq_true.mp h.2 d hd
    exact List.contains_iff_mem.mp q
theorem some_family : chk (fun d => fams.any fun ws => beD d (famD ws)) (m_law_some_family [.orc]) 5 = true := by decide +kernel
theorem ok_some_family : Ok (m_law_some_family [.orc]) 5 fun d => ∃ ws, ws ∈ fams ∧ d = famD ws := (Ok.chk some_family).mono (Nat.le_refl _) fun d h => by
  obtain ⟨ws, hw, e⟩ := List.any_eq_true.mp h
  exact ⟨ws, hw, beD_ok _ _ e⟩
/-! ### a drawn one of some -/
theorem Ok.draw {α : Type} {n m : Nat} {k : Nat → Tr α} {P : α → Prop} (h : ∀ i, i < n → Ok (k i) m P) : Ok (.draw n k) (m + 1) P := ⟨fun b hb => ⟨b - 1, by omega, fun i hi => Tr.All_mono ((h i hi).run (b - 1) (by omega)) fun a c ⟨h1, h2⟩ => ⟨by omega, h2⟩⟩⟩
theorem ok_of {L : List D} (h0 : L ≠ []) (hl : L.length < 1000) : Ok (m_law_of [.orc, .val (.list L)]) 1 fun d => d ∈ L := by
  have hp : 0 < L.length := List.length_pos_iff.mpr h0
  have d1 : m_law_draw [.orc, .val (nI L.length)] = .draw L.length fun i => .ret (nI i) := by
    show (if 1 ≤ (L.length : Int) ∧ (L.length : Int) < 1073741824 then Tr.draw (L.length : Int).toNat fun i => Tr.ret (PyData.int (i : Nat)) else Tr.fail : Tr D) = _
    rw [if_pos (by omega), Int.toNat_natCast]
    rfl
  have d2 : eCall m_law_draw (aOrc 0 (aVal (eCB dLenA (lCons (eVar 1) lNil)) aNil)) (startE 2 [.orc, .val (.list L)]) = .draw L.length fun i => .ret (nI i) := d1
  have d3 : e2 dIx (eVar 1) (eCall m_law_draw (aOrc 0 (aVal (eCB dLenA (lCons (eVar 1) lNil)) aNil))) (startE 2 [.orc, .val (.list L)]) = .draw L.length fun i => Tr.ofOpt (dIx (.list L) (nI i)) := by
    unfold e2
    rw [show eVar 1 (startE 2 [.orc, .val (.list L)]) = .ret (.list L) from rfl, bret, d2]
    rfl
  unfold m_law_of
  refine ok_fn ?_
  refine ok_sret ?_
  rw [d3]
  refine Ok.draw (m := 0) fun i hi => ?_
  have q : dIx (.list L) (nI i) = some L[i] := by
    unfold nI
    rw [dIx_l, List.getElem?_eq_getElem hi]
  rw [q]
  exact Ok.ret (List.getElem_mem hi)
def rowD (ds : List Deed) : D := .tuple (ds.map dD)
theorem deeds_of {c : Nat} {ws : List Nat} : ∀ {ys : List D}, (∀ y ∈ ys, y ∈ (deedsOf c ws).map dD) → ∃ ds : List Deed, ys = ds.map dD ∧ ∀ d ∈ ds, d ∈ deedsOf c ws
  | [], _ => ⟨[], rfl, fun _ h => nomatch h⟩
  | y :: ys, h => by
    obtain ⟨d, h1, rfl⟩ := List.mem_map.mp (h y List.mem_cons_self)
    obtain ⟨ds, e, h2⟩ := deeds_of (ys := ys) fun y hy => h y (List.mem_cons_of_mem _ hy)
    exact ⟨d :: ds, by rw [e]; rfl, fun z hz => by
      rcases List.mem_cons.mp hz with e | hz
      · rw [e]; exact h1
      · exact h2 z hz⟩
end FL
end
section
set_option linter.all false
set_option maxRecDepth 100000
namespace FL
open PySem PySem.Spec PyProof.Rows L2 DL FM
/-! ### rows -/
theorem r40 {n : Nat} (h : n ≤ 40) : (n : Int) ≤ 40 := by omega
theorem row_tuple {ds : List Deed} (h : ds.length ≤ 40) : m_is_tuple_of_at_most [.val (rowD ds), .val (.int 40)] = .ret (.bool true) := by
  have e : dLe (nI (ds.map dD).length) (.int 40) = some (.bool true) := by
    have q : ((ds.map dD).length : Int) ≤ 40 := by rw [List.length_map]; omega
    show some (PyData.bool (decide (((ds.map dD).length : Int) ≤ 40))) = _
    rw [decide_eq_true q]
  have l : eCB dLenA (lCons (eVar 0) lNil) (startE 2 [.val (rowD ds), .val (.int 40)]) = .ret (nI (ds.map dD).length) := rfl
  have a : e2 dLe (eCB dLenA (lCons (eVar 0) lNil)) (eVar 1) (startE 2 [.val (rowD ds), .val (.int 40)]) = .ret (.bool true) := e2_r l (y := .int 40) rfl e
  have b : eTy false "tuple" (eVar 0) (startE 2 [.val (rowD ds), .val (.int 40)]) = .ret (.bool true) := rfl
  unfold m_is_tuple_of_at_most
  refine fn_v (d := .bool true) (ret_rv ?_)
  unfold vAnd
  rw [b, bret]
  exact a
abbrev bNeed : FS := sIf (bNot (tt (eCall m_is_deed (aVal (eVar 0) (aVal (eVar 3) aNil))))) (fun _ => .fail) sNext
theorem need_walk {c : Nat} (h1 : 1 ≤ c) (h5 : c ≤ 5) {R : D} : ∀ (ds : List Deed) (i : Nat) (d2 d3 : Option Slot), (∀ d ∈ ds, d ∈ deedsOf c [0, 1, 2, 3]) → ∃ e2 e3, forD (gT 2 (gsCons (gN 2) (gsCons (gN 3) gsNil))) bNeed (pairsFrom i (ds.map dD)) [some (.val (nI c)), some (.val R), d2, d3] = .ret (.nx [some (.val (nI c)), some (.val R), e2, e3])
  | [], i, d2, d3, _ => ⟨d2, d3, rfl⟩
  | d :: ds, i, d2, d3, h => by
    obtain ⟨e2, e3, q⟩ := need_walk h1 h5 (R := R) ds (i + 1) (some (.val (.int i))) (some (.val (dD d))) fun d hd => h d (List.mem_cons_of_mem _ hd)
    have k := (deed_ok h1 h5 (h d List.mem_cons_self)).isd
    have a : eCall m_is_deed (aVal (eVar 0) (aVal (eVar 3) aNil)) [some (.val (nI c)), some (.val R), some (.val (.int i)), some (.val (dD d))] = .ret (.bool true) := call_r (aC (d := nI c) rfl (a1 (d := dD d) rfl)) k
    have b : bNeed [some (.val (nI c)), some (.val R), some (.val (.int i)), some (.val (dD d))] = .ret (.nx [some (.val (nI c)), some (.val R), some (.val (.int i)), some (.val (dD d))]) := by
      unfold bNeed sIf bNot tt
      rw [a]
      rfl
    refine ⟨e2, e3, ?_⟩
    rw [List.map_cons, pairsFrom, forD]
    show ((bNeed [some (.val (nI c)), some (.val R), some (.val (.int i)), some (.val (dD d))]).bind _) = _
    rw [b]
    exact q
theorem v_need_row {c : Nat} (h1 : 1 ≤ c) (h5 : c ≤ 5) {ds : List Deed} (hl : ds.length ≤ 40) (hd : ∀ d ∈ ds, d ∈ deedsOf c [0, 1, 2, 3]) : m_need_row [.val (nI c), .val (rowD ds)] = .ret .none := by
  have a : eCall m_is_tuple_of_at_most (aVal (eVar 1) (aVal (eC (.int 40)) aNil)) (startE 4 [.val (nI c), .val (rowD ds)]) = .ret (.bool true) := call_r (aC (d := rowD ds) rfl (a1 (d := .int 40) rfl)) (row_tuple hl)
  have s1 : sIf (bNot (tt (eCall m_is_tuple_of_at_most (aVal (eVar 1) (aVal (eC (.int 40)) aNil))))) (fun _ => .fail) sNext (startE 4 [.val (nI c), .val (rowD ds)]) = .ret (.nx (startE 4 [.val (nI c), .val (rowD ds)])) := by
    unfold sIf bNot tt
    rw [a]
    rfl
  obtain ⟨e2, e3, q⟩ := need_walk h1 h5 (R := rowD ds) ds 0 none none hd
  have s2 : sForE (lCons (eVar 1) lNil) (gT 2 (gsCons (gN 2) (gsCons (gN 3) gsNil))) bNeed (startE 4 [.val (nI c), .val (rowD ds)]) = .ret (.nx [some (.val (nI c)), some (.val (rowD ds)), e2, e3]) := q
  unfold m_need_row fnF
  have s3 := (seq_nx (g := sForE (lCons (eVar 1) lNil) (gT 2 (gsCons (gN 2) (gsCons (gN 3) gsNil))) bNeed) s1).trans s2
  rw [show sSeq (sIf (bNot (tt (eCall m_is_tuple_of_at_most (aVal (eVar 1) (aVal (eC (.int 40)) aNil))))) (fun _ => .fail) sNext) (sForE (lCons (eVar 1) lNil) (gT 2 (gsCons (gN 2) (gsCons (gN 3) gsNil))) (sIf (bNot (tt (eCall m_is_deed (aVal (eVar 0) (aVal (eVar 3) aNil))))) (fun _ => .fail) sNext)) (startE 4 [.val (nI c), .val (rowD ds)]) = .ret (.nx [some (.val (nI c)), some (.val (rowD ds)), e2, e3]) from s3]
  rfl
abbrev bCourse : FS := sSeq (sAsg (eCall m_put_together (aVal (eVar 0) (aVal (e2 dIx (eVarB 2) (eNeg (eC (.int 1)))) (aVal (eCall m_figure_of_deed (aVal (eVar 0) (aVal (eVar 4) aNil))) aNil)))) (gT 2 (gsCons (gN 5) (gsCons (gN 6) gsNil)))) (sSeq (sApp 2 (eVar 5)) (sApp 3 (e2 dAddA (e2 dIx (eVarB 3) (eNeg (eC (.int 1)))) (eVar 6))))
theorem last_ix {hs : List D} {x : D} : dIx (.list (hs ++ [x])) (.int (-1)) = some x := by
  unfold dIx
  dsimp only
  unfold atI ixN
  rw [if_neg (by omega), if_pos (by rw [List.length_append]; simp; omega)]
  rw [List.length_append, List.length_cons, List.length_nil, show ((-1 : Int) + ((hs.length + (0 + 1) : Nat) : Int)).toNat = hs.length by omega]
  simp
theorem last_ixT {hs : List D} {x : D} : dIx (.tuple (hs ++ [x])) (.int (-1)) = some x := last_ix
theorem neg1 {env : Ev} : eNeg (eC (.int 1)) env = .ret (.int (-1)) := rfl
theorem ex3 {P : List D → List D → Option Slot → Option Slot → Option Slot → Prop} (a b c d e) (h : P a b c d e) : ∃ a b c d e, P a b c d e := ⟨a, b, c, d, e, h⟩
/-- the frame of a row's course -/
def cE (c : Nat) (R : D) (hs ls : List D) (d4 d5 d6 : Option Slot) : Ev := [some (.val (nI c)), some (.val R), some (.own (.list hs)), some (.own (.list ls)), d4, d5, d6]
def rstep (c : Nat) (s : List Nat × Nat) (d : Deed) : List Nat × Nat := (uponL c s.1 (dF c d), s.2 + leftL c s.1 (dF c d))
theorem course_step {c : Nat} (h1 : 1 ≤ c) (h5 : c ≤ 5) {R : D} {hs ls : List D} {s : List Nat × Nat} {d : Deed} {d4 d5 d6 : Option Slot} (hd : d ∈ deedsOf c [0, 1, 2, 3]) (hv : Val c s.1) (l1 : hs.length ≤ 40) (l2 : ls.length ≤ 40) :
    ∃ d5 d6, bCourse (cE c R (hs ++ [fD s.1]) (ls ++ [nI s.2]) (some (.val (dD d))) d5' d6') = .ret (.nx (cE c R (hs ++ [fD s.1] ++ [fD (rstep c s d).1]) (ls ++ [nI s.2] ++ [nI (rstep c s d).2]) (some (.val (dD d))) d5 d6)) := by
  have D := deed_ok h1 h5 hd
  have f1 : eCall m_figure_of_deed (aVal (eVar 0) (aVal (eVar 4) aNil)) (cE c R (hs ++ [fD s.1]) (ls ++ [nI s.2]) (some (.val (dD d))) d5' d6') = .ret (fD (dF c d)) := call_r (aC (d := nI c) rfl (a1 (d := dD d) rfl)) D.prog
  have f2 : e2 dIx (eVarB 2) (eNeg (eC (.int 1))) (cE c R (hs ++ [fD s.1]) (ls ++ [nI s.2]) (some (.val (dD d))) d5' d6') = .ret (fD s.1) := e2_r (x := .list (hs ++ [fD s.1])) rfl neg1 last_ix
  have f3 : eCall m_put_together (aVal (eVar 0) (aVal (e2 dIx (eVarB 2) (eNeg (eC (.int 1)))) (aVal (eCall m_figure_of_deed (aVal (eVar 0) (aVal (eVar 4) aNil))) aNil))) (cE c R (hs ++ [fD s.1]) (ls ++ [nI s.2]) (some (.val (dD d))) d5' d6') = .ret (.tuple [fD (uponL c s.1 (dF c d)), nI (leftL c s.1 (dF c d))]) := call_r (aC (d := nI c) rfl (aC f2 (a1 f1))) (v_put h1 h5 hv D.val)
  refine ⟨some (.val (fD (uponL c s.1 (dF c d)))), some (.val (nI (leftL c s.1 (dF c d)))), ?_⟩
  refine (seq_nx (asg_two (i := 5) (j := 6) f3)).trans ?_
  have z1 : (hs ++ [fD s.1]).length < sizeLine := small1000 (by rw [List.length_append]; simp; omega)
  have z2 : (ls ++ [nI s.2]).length < sizeLine := small1000 (by rw [List.length_append]; simp; omega)
  have g1 : sApp 2 (eVar 5) (cE c R (hs ++ [fD s.1]) (ls ++ [nI s.2]) (some (.val (dD d))) (some (.val (fD (uponL c s.1 (dF c d))))) (some (.val (nI (leftL c s.1 (dF c d)))))) = .ret (.nx (cE c R (hs ++ [fD s.1] ++ [fD (rstep c s d).1]) (ls ++ [nI s.2]) (some (.val (dD d))) (some (.val (fD (uponL c s.1 (dF c d))))) (some (.val (nI (leftL c s.1 (dF c d))))))) := by
    show (if (hs ++ [fD s.1]).length < sizeLine then Tr.ret (Out.nx _) else .fail) = _
    rw [if_pos z1]
    rfl
  refine (seq_nx (env := cE c R (hs ++ [fD s.1]) (ls ++ [nI s.2]) (some (.val (dD d))) (some (.val (fD (uponL c s.1 (dF c d))))) (some (.val (nI (leftL c s.1 (dF c d)))))) g1).trans ?_
  have g2 : e2 dAddA (e2 dIx (eVarB 3) (eNeg (eC (.int 1)))) (eVar 6) (cE c R (hs ++ [fD s.1] ++ [fD (rstep c s d).1]) (ls ++ [nI s.2]) (some (.val (dD d))) (some (.val (fD (uponL c s.1 (dF c d))))) (some (.val (nI (leftL c s.1 (dF c d)))))) = .ret (nI (rstep c s d).2) := e2_r (e2_r (x := .list (ls ++ [nI s.2])) rfl neg1 last_ix) (y := nI (leftL c s.1 (dF c d))) rfl nI_add
  unfold sApp
  show ((e2 dAddA (e2 dIx (eVarB 3) (eNeg (eC (.int 1)))) (eVar 6) (cE c R (hs ++ [fD s.1] ++ [fD (rstep c s d).1]) (ls ++ [nI s.2]) (some (.val (dD d))) (some (.val (fD (uponL c s.1 (dF c d))))) (some (.val (nI (leftL c s.1 (dF c d))))))).bind _) = _
  rw [g2, bret, if_pos z2]
  rfl
def rowS (c : Nat) (ds : List Deed) : List Nat × Nat := ds.foldl (rstep c) (stL c, 0)
theorem v_course {c : Nat} (h1 : 1 ≤ c) (h5 : c ≤ 5) {ds : List Deed} (hl : ds.length ≤ 40) (hd : ∀ d ∈ ds, d ∈ deedsOf c [0, 1, 2, 3]) : ∃ hs ls, m_row_course [.val (nI c), .val (rowD ds)] = .ret (.tuple [.list (hs ++ [fD (rowS c ds).1]), .list (ls ++ [nI (rowS c ds).2])]) ∧ Val c (rowS c ds).1 := by
  have key : ∀ (i : Nat) (s : List Nat × Nat) (d : Deed) (env : Ev), ds[i]? = some d → (∃ hs ls d4 d5 d6, env = cE c (rowD ds) (hs ++ [fD s.1]) (ls ++ [nI s.2]) d4 d5 d6 ∧ hs.length = i ∧ ls.length = i ∧ Val c s.1) →
      ∃ env1 env2, gN 4 (dD d) env = some env1 ∧ bCourse env1 = .ret (.nx env2) ∧ ∃ hs ls d4 d5 d6, env2 = cE c (rowD ds) (hs ++ [fD (rstep c s d).1]) (ls ++ [nI (rstep c s d).2]) d4 d5 d6 ∧ hs.length = i + 1 ∧ ls.length = i + 1 ∧ Val c (rstep c s d).1 := by
    rintro i s d env hx ⟨hs, ls, d4, d5, d6, e, k1, k2, hv⟩
    subst e
    have hi : i < ds.length := by
      obtain ⟨hi, _⟩ := List.getElem?_eq_some_iff.mp hx
      exact hi
    have hm : d ∈ deedsOf c [0, 1, 2, 3] := hd d (List.mem_of_getElem? hx)
    obtain ⟨e5, e6, q⟩ := course_step (d5' := d5) (d6' := d6) (d4 := d4) (d5 := d5) (d6 := d6) h1 h5 (R := rowD ds) (hs := hs) (ls := ls) (s := s) hm hv (by omega) (by omega)
    exact ⟨_, _, rfl, q, _, _, _, _, _, rfl, by rw [List.length_append, k1]; rfl, by rw [List.length_append, k2]; rfl, upon_val c _ _⟩
  have st := (v_straight h1 h5).1
  have s1 : sSetO 2 (eLst (lCons (eCall m_straight_figure (aVal (eVar 0) aNil)) lNil)) (startE 7 [.val (nI c), .val (rowD ds)]) = .ret (.nx [some (.val (nI c)), some (.val (rowD ds)), some (.own (.list [fD (stL c)])), none, none, none, none]) := by
    have a : eCall m_straight_figure (aVal (eVar 0) aNil) (startE 7 [.val (nI c), .val (rowD ds)]) = .ret (fD (stL c)) := call_r (a1 (d := nI c) rfl) st
    unfold sSetO eLst
    rw [lc1 a]
    rfl
  have s2 : sSetO 3 (eLst (lCons (eC (.int 0)) lNil)) [some (.val (nI c)), some (.val (rowD ds)), some (.own (.list [fD (stL c)])), none, none, none, none] = .ret (.nx (cE c (rowD ds) ([] ++ [fD (stL c)]) ([] ++ [nI 0]) none none none)) := rfl
  obtain ⟨env', g1, hs, ls, d4, d5, d6, e, k1, k2, hv⟩ := for_all (tgt := gN 4) (dd := dD) _ (rstep c) (xs := ds) (s := (stL c, 0)) (env := cE c (rowD ds) ([] ++ [fD (stL c)]) ([] ++ [nI 0]) none none none) ⟨[], [], none, none, none, rfl, rfl, rfl, st_val c⟩ key
  have e : env' = cE c (rowD ds) (hs ++ [fD (rowS c ds).1]) (ls ++ [nI (rowS c ds).2]) d4 d5 d6 := e
  have s3 : sForS (eVar 1) (gN 4) bCourse (cE c (rowD ds) ([] ++ [fD (stL c)]) ([] ++ [nI 0]) none none none) = .ret (.nx env') := g1
  subst e
  refine ⟨hs, ls, ?_, hv⟩
  unfold m_row_course
  refine fn_v ?_
  refine (seq_nx (env := startE 7 [.val (nI c), .val (rowD ds)]) s1).trans ((seq_nx s2).trans ((seq_nx s3).trans ?_))
  rfl
theorem v_way {c : Nat} (h1 : 1 ≤ c) (h5 : c ≤ 5) {ds : List Deed} (hl : ds.length ≤ 40) (hd : ∀ d ∈ ds, d ∈ deedsOf c [0, 1, 2, 3]) : m_figure_of [.val (nI c), .val (rowD ds)] = .ret (fD (rowS c ds).1) ∧ m_leftovers_of [.val (nI c), .val (rowD ds)] = .ret (nI (rowS c ds).2) ∧ Val c (rowS c ds).1 := by
  obtain ⟨hs, ls, q, hv⟩ := v_course h1 h5 hl hd
  have cc : eCall m_row_course (aVal (eVar 0) (aVal (eVar 1) aNil)) (startE 2 [.val (nI c), .val (rowD ds)]) = .ret (.tuple [.list (hs ++ [fD (rowS c ds).1]), .list (ls ++ [nI (rowS c ds).2])]) := call_r (aC (d := nI c) rfl (a1 (d := rowD ds) rfl)) q
  have n1 : sExpr (eCall m_need_cords (aVal (eVar 0) aNil)) (startE 2 [.val (nI c), .val (rowD ds)]) = .ret (.nx (startE 2 [.val (nI c), .val (rowD ds)])) := expr_nx (call_r (a1 (d := nI c) rfl) (v_need_cords h1 h5))
  have n2 : sExpr (eCall m_need_row (aVal (eVar 0) (aVal (eVar 1) aNil))) (startE 2 [.val (nI c), .val (rowD ds)]) = .ret (.nx (startE 2 [.val (nI c), .val (rowD ds)])) := expr_nx (call_r (aC (d := nI c) rfl (a1 (d := rowD ds) rfl)) (v_need_row h1 h5 hl hd))
  have w1 : m_figures_on_way [.val (nI c), .val (rowD ds)] = .ret (.tuple (hs ++ [fD (rowS c ds).1])) := by
    unfold m_figures_on_way
    refine fn_v ((seq_nx n1).trans ((seq_nx n2).trans (ret_rv ?_)))
    have i0 : e2 dIx (eCall m_row_course (aVal (eVar 0) (aVal (eVar 1) aNil))) (eC (.int 0)) (startE 2 [.val (nI c), .val (rowD ds)]) = .ret (.list (hs ++ [fD (rowS c ds).1])) := e2_r cc (y := .int 0) rfl rfl
    unfold eCB
    rw [lc1 i0]
    rfl
  have w2 : m_leftovers_on_way [.val (nI c), .val (rowD ds)] = .ret (.tuple (ls ++ [nI (rowS c ds).2])) := by
    unfold m_leftovers_on_way
    refine fn_v ((seq_nx n1).trans ((seq_nx n2).trans (ret_rv ?_)))
    have i0 : e2 dIx (eCall m_row_course (aVal (eVar 0) (aVal (eVar 1) aNil))) (eC (.int 1)) (startE 2 [.val (nI c), .val (rowD ds)]) = .ret (.list (ls ++ [nI (rowS c ds).2])) := e2_r cc (y := .int 1) rfl rfl
    unfold eCB
    rw [lc1 i0]
    rfl
  refine ⟨?_, ?_, hv⟩
  · unfold m_figure_of
    exact fn_v (ret_rv (e2_r (call_r (aC (d := nI c) rfl (a1 (d := rowD ds) rfl)) w1) neg1 last_ixT))
  · unfold m_leftovers_of
    exact fn_v (ret_rv (e2_r (call_r (aC (d := nI c) rfl (a1 (d := rowD ds) rfl)) w2) neg1 last_ixT))
theorem v_row_rings {c : Nat} (h1 : 1 ≤ c) (h5 : c ≤ 5) {ds : List Deed} (hl : ds.length ≤ 40) (hd : ∀ d ∈ ds, d ∈ deedsOf c [0, 1, 2, 3]) : m_row_rings [.val (nI c), .val (rowD ds)] = .ret (nI (ringsL c (rowS c ds).1 + (rowS c ds).2)) := by
  obtain ⟨a, b, hv⟩ := v_way h1 h5 hl hd
  have x : eCall m_figure_of (aVal (eVar 0) (aVal (eVar 1) aNil)) (startE 2 [.val (nI c), .val (rowD ds)]) = .ret (fD (rowS c ds).1) := call_r (aC (d := nI c) rfl (a1 (d := rowD ds) rfl)) a
  have y : eCall m_leftovers_of (aVal (eVar 0) (aVal (eVar 1) aNil)) (startE 2 [.val (nI c), .val (rowD ds)]) = .ret (nI (rowS c ds).2) := call_r (aC (d := nI c) rfl (a1 (d := rowD ds) rfl)) b
  unfold m_row_rings
  exact fn_v (ret_rv (e2_r (call_r (aC (d := nI c) rfl (a1 x)) (v_many_rings h1 h5 hv)) y nI_add))
theorem v_both {c : Nat} (h1 : 1 ≤ c) (h5 : c ≤ 5) {A B : List Nat} (hA : Val c A) (hB : Val c B) : m_rings_of_both [.val (nI c), .val (fD A), .val (fD B)] = .ret (nI (ringsL c (uponL c A B) + leftL c A B)) := by
  unfold m_rings_of_both
  have n1 : sExpr (eCall m_need_two_figures (aVal (eVar 0) (aVal (eVar 1) (aVal (eVar 2) aNil)))) (startE 5 [.val (nI c), .val (fD A), .val (fD B)]) = .ret (.nx (startE 5 [.val (nI c), .val (fD A), .val (fD B)])) := expr_nx (call_r (aC (d := nI c) rfl (aC (d := fD A) rfl (a1 (d := fD B) rfl))) (v_need_two h1 h5 hA hB))
  have p : eCall m_put_together (aVal (eVar 0) (aVal (eVar 1) (aVal (eVar 2) aNil))) (startE 5 [.val (nI c), .val (fD A), .val (fD B)]) = .ret (.tuple [fD (uponL c A B), nI (leftL c A B)]) := call_r (aC (d := nI c) rfl (aC (d := fD A) rfl (a1 (d := fD B) rfl))) (v_put h1 h5 hA hB)
  refine fn_v ((seq_nx n1).trans ((seq_nx (asg_two (i := 3) (j := 4) p)).trans (ret_rv ?_)))
  exact e2_r (call_r (aC (d := nI c) rfl (a1 (d := fD (uponL c A B)) rfl)) (v_many_rings h1 h5 (upon_val c A B))) (y := nI (leftL c A B)) rfl nI_add
end FL
end
section
set_option linter.all false
set_option maxRecDepth 100000
namespace FL
open PySem PySem.Spec PyProof.Rows L2 DL FM
/-! ### the law's rows -/
abbrev bFig : FS := sSeq (sAsg (eCall m_law_upon (aVal (eVar 0) (aVal (eVar 3) (aVal (eCall m_law_deed (aVal (eVar 0) (aVal (eVar 2) aNil))) aNil)))) (gT 2 (gsCons (gN 3) (gsCons (gN 5) gsNil)))) (sSet 4 (e2 dAddA (eVar 4) (eVar 5)))
theorem v_lawfig {c : Nat} (h1 : 1 ≤ c) (h5 : c ≤ 5) {ds : List Deed} (hd : ∀ d ∈ ds, d ∈ deedsOf c [0, 1, 2, 3]) : m_law_figure [.val (nI c), .val (rowD ds)] = .ret (.tuple [fD (rowS c ds).1, nI (rowS c ds).2]) ∧ Val c (rowS c ds).1 := by
  have key : ∀ (i : Nat) (s : List Nat × Nat) (d : Deed) (env : Ev), ds[i]? = some d → (∃ d2 d5, env = [some (.val (nI c)), some (.val (rowD ds)), d2, some (.val (fD s.1)), some (.val (nI s.2)), d5] ∧ Val c s.1) →
      ∃ env1 env2, gN 2 (dD d) env = some env1 ∧ bFig env1 = .ret (.nx env2) ∧ ∃ d2 d5, env2 = [some (.val (nI c)), some (.val (rowD ds)), d2, some (.val (fD (rstep c s d).1)), some (.val (nI (rstep c s d).2)), d5] ∧ Val c (rstep c s d).1 := by
    rintro i s d env hx ⟨d2, d5, e, hv⟩
    subst e
    have D := deed_ok h1 h5 (hd d (List.mem_of_getElem? hx))
    have f1 : eCall m_law_deed (aVal (eVar 0) (aVal (eVar 2) aNil)) [some (.val (nI c)), some (.val (rowD ds)), some (.val (dD d)), some (.val (fD s.1)), some (.val (nI s.2)), d5] = .ret (fD (dF c d)) := call_r (aC (d := nI c) rfl (a1 (d := dD d) rfl)) D.law
    have f3 : eCall m_law_upon (aVal (eVar 0) (aVal (eVar 3) (aVal (eCall m_law_deed (aVal (eVar 0) (aVal (eVar 2) aNil))) aNil))) [some (.val (nI c)), some (.val (rowD ds)), some (.val (dD d)), some (.val (fD s.1)), some (.val (nI s.2)), d5] = .ret (.tuple [fD (uponL c s.1 (dF c d)), nI (leftL c s.1 (dF c d))]) := call_r (aC (d := nI c) rfl (aC (d := fD s.1) rfl (a1 f1))) (v_lawup h1 h5 hv D.val)
    refine ⟨[some (.val (nI c)), some (.val (rowD ds)), some (.val (dD d)), some (.val (fD s.1)), some (.val (nI s.2)), d5], [some (.val (nI c)), some (.val (rowD ds)), some (.val (dD d)), some (.val (fD (rstep c s d).1)), some (.val (nI (rstep c s d).2)), some (.val (nI (leftL c s.1 (dF c d))))], rfl, ?_, _, _, rfl, upon_val c _ _⟩
    refine (seq_nx (asg_two (i := 3) (j := 5) f3)).trans ?_
    have g : e2 dAddA (eVar 4) (eVar 5) [some (.val (nI c)), some (.val (rowD ds)), some (.val (dD d)), some (.val (fD (rstep c s d).1)), some (.val (nI s.2)), some (.val (nI (leftL c s.1 (dF c d))))] = .ret (nI (rstep c s d).2) := e2_r (x := nI s.2) (y := nI (leftL c s.1 (dF c d))) rfl rfl nI_add
    exact set_nx g
  have st := (v_straight h1 h5).2
  have a : eCall m_law_straight (aVal (eVar 0) aNil) (startE 6 [.val (nI c), .val (rowD ds)]) = .ret (fD (stL c)) := call_r (a1 (d := nI c) rfl) st
  have s1 : sPar false false 3 4 (eCall m_law_straight (aVal (eVar 0) aNil)) (eC (.int 0)) (startE 6 [.val (nI c), .val (rowD ds)]) = .ret (.nx [some (.val (nI c)), some (.val (rowD ds)), none, some (.val (fD (stL c))), some (.val (nI 0)), none]) := by
    unfold sPar
    rw [a]
    rfl
  obtain ⟨env', g1, d2, d5, e, hv⟩ := for_all (tgt := gN 2) (dd := dD) _ (rstep c) (xs := ds) (s := (stL c, 0)) (env := [some (.val (nI c)), some (.val (rowD ds)), none, some (.val (fD (stL c))), some (.val (nI 0)), none]) ⟨none, none, rfl, st_val c⟩ key
  have e : env' = [some (.val (nI c)), some (.val (rowD ds)), d2, some (.val (fD (rowS c ds).1)), some (.val (nI (rowS c ds).2)), d5] := e
  have s2 : sForS (eVar 1) (gN 2) bFig [some (.val (nI c)), some (.val (rowD ds)), none, some (.val (fD (stL c))), some (.val (nI 0)), none] = .ret (.nx env') := g1
  subst e
  refine ⟨?_, hv⟩
  unfold m_law_figure
  refine fn_v ((seq_nx (env := startE 6 [.val (nI c), .val (rowD ds)]) s1).trans ((seq_nx s2).trans (ret_rv ?_)))
  exact tup2 (x := fD (rowS c ds).1) (y := nI (rowS c ds).2) rfl rfl
/-! ### turned over, mirrored -/
theorem sl_take {i : Nat} {f : FE} {env : Ev} {xs : List Nat} {n : Nat} (h : eVar i env = .ret (fD xs)) (hf : f env = .ret (nI n)) : eSl dSlA (eVar i) oNone (oSome f) env = .ret (fD (xs.take n)) := by
  have o : oSome f env = .ret (some (n : Int)) := by
    unfold oSome
    rw [hf]
    rfl
  unfold eSl
  rw [h, bret, show oNone env = .ret none from rfl, bret, o, bret]
  show Tr.ofOpt (some (PyData.tuple (DL.cutD (nL xs) none (some (n : Int))))) = _
  rw [cut_take]
  rfl
theorem sl_drop {i : Nat} {f : FE} {env : Ev} {xs : List Nat} {n : Nat} (h : eVar i env = .ret (fD xs)) (hf : f env = .ret (nI n)) : eSl dSlA (eVar i) (oSome f) oNone env = .ret (fD (xs.drop n)) := by
  have o : oSome f env = .ret (some (n : Int)) := by
    unfold oSome
    rw [hf]
    rfl
  unfold eSl
  rw [h, bret, o, bret, show oNone env = .ret none from rfl, bret]
  show Tr.ofOpt (some (PyData.tuple (DL.cutD (nL xs) (some (n : Int)) none))) = _
  rw [cut_drop]
  rfl
theorem v_over {c : Nat} (h5 : c ≤ 5) {A : List Nat} (hA : Val c A) : m_law_over [.val (nI c), .val (fD A)] = .ret (fD (renum (A.drop c ++ A.take c))) := by
  have lA := hA.len
  have a : eSl dSlA (eVar 1) (oSome (eVar 0)) oNone (startE 2 [.val (nI c), .val (fD A)]) = .ret (fD (A.drop c)) := sl_drop rfl rfl
  have b : eSl dSlA (eVar 1) oNone (oSome (eVar 0)) (startE 2 [.val (nI c), .val (fD A)]) = .ret (fD (A.take c)) := sl_take rfl rfl
  unfold m_law_over
  refine fn_v (ret_rv (call_r (a1 (e2_r a b (catT_n (by simp; omega)))) (v_namedT (by simp; omega))))
theorem rev_n {f : FE} {env : Ev} {xs : List Nat} (h : f env = .ret (fD xs)) : eRev f env = .ret (fD xs.reverse) := by
  unfold eRev
  rw [h, bret]
  show Tr.ret (PyData.tuple (nL xs).reverse) = _
  unfold nL
  rw [← List.map_reverse]
  rfl
theorem v_mirrored {c : Nat} (h5 : c ≤ 5) {A : List Nat} (hA : Val c A) : m_law_mirrored [.val (nI c), .val (fD A)] = .ret (fD (renum ((A.take c).reverse ++ (A.drop c).reverse))) := by
  have lA := hA.len
  have a : eSl dSlA (eVar 1) (oSome (eVar 0)) oNone (startE 2 [.val (nI c), .val (fD A)]) = .ret (fD (A.drop c)) := sl_drop rfl rfl
  have b : eSl dSlA (eVar 1) oNone (oSome (eVar 0)) (startE 2 [.val (nI c), .val (fD A)]) = .ret (fD (A.take c)) := sl_take rfl rfl
  unfold m_law_mirrored
  refine fn_v (ret_rv (call_r (a1 (e2_r (rev_n b) (rev_n a) (catT_n (by simp; omega)))) (v_namedT (by simp; omega))))
end FL
end
section
set_option linter.all false
set_option maxRecDepth 100000
namespace FL
open PySem PySem.Spec PyProof.Rows L2 DL FM
/-! ### the law's rings -/
theorem fold_keep {α β : Type} (p : α → Bool) (f : α → β) : ∀ (xs : List α) (s : List β), xs.foldl (fun s x => if p x = true then s ++ [f x] else s) s = s ++ (xs.filter p).map f
  | [], s => by simp
  | x :: xs, s => by
    rw [List.foldl_cons, fold_keep p f xs]
    by_cases h : p x = true
    · rw [if_pos h, List.filter_cons_of_pos h, List.map_cons, List.append_assoc]
      rfl
    · rw [if_neg h, List.filter_cons_of_neg h]
abbrev bRing : FS := sSeq (sAsg (eTup (lCons (e2 dIx (eVar 2) (e2 dAddA (eVar 0) (eVar 3))) (lCons (e2 dIx (eVar 2) (eVar 3)) lNil))) (gT 2 (gsCons (gN 5) (gsCons (gN 6) gsNil)))) (sSet 2 (eCompS (eVar 2) (gN 7) fYes (eIf (tt (e2 dEq (eVar 7) (eVar 5))) (eVar 6) (eVar 7)) [7]))
abbrev bRing2 : FS := sIf (tt (e2 (dIn true) (e2 dIx (eVar 2) (eVar 3)) (eSl dSlA (eVar 2) oNone (oSome (eVar 3))))) (sApp 4 (eCB dTuple (lCons (eCompR (lCons (eVar 0) lNil) (gN 8) (tt (e2 dEq (e2 dIx (eVar 2) (eVar 8)) (e2 dIx (eVar 2) (eVar 3)))) (eVar 8) [8]) lNil))) sNext
def ringAt (c : Nat) (L : List Nat) (at_ : Nat) : List Nat := (List.range c).filter fun i => decide (L.getD i 0 = L.getD at_ 0)
theorem ring_step {c : Nat} (h5 : c ≤ 5) {A L : List Nat} (hL : L.length = 2 * c) {x : Nat} (hx : x < c) {s : List D} (hs : s.length ≤ 5) {d5 d6 : Option Slot} :
    bRing2 [some (.val (nI c)), some (.val (fD A)), some (.val (lD L)), some (.val (nI x)), some (.own (.list s)), d5, d6, none, none] = .ret (.nx [some (.val (nI c)), some (.val (fD A)), some (.val (lD L)), some (.val (nI x)), some (.own (.list (if decide (L.getD x 0 ∉ L.take x) = true then s ++ [fD (ringAt c L x)] else s))), d5, d6, none, none]) := by
  let f0 : Ev := [some (.val (nI c)), some (.val (fD A)), some (.val (lD L)), some (.val (nI x)), some (.own (.list s)), d5, d6, none, none]
  have a : e2 dIx (eVar 2) (eVar 3) f0 = .ret (nI (L.getD x 0)) := e2_r (x := lD L) (y := nI x) rfl rfl (atL (by omega))
  have b : eSl dSlA (eVar 2) oNone (oSome (eVar 3)) f0 = .ret (lD (L.take x)) := by
    show Tr.ofOpt (some (PyData.list (DL.cutD (nL L) none (some (x : Int))))) = _
    rw [cut_take]
    rfl
  have e : e2 (dIn true) (e2 dIx (eVar 2) (eVar 3)) (eSl dSlA (eVar 2) oNone (oSome (eVar 3))) f0 = .ret (.bool (decide (L.getD x 0 ∉ L.take x))) := e2_r a b (by
    rw [dIn_n]
    by_cases h : L.getD x 0 ∈ L.take x <;> simp [h])
  have t : tt (e2 (dIn true) (e2 dIx (eVar 2) (eVar 3)) (eSl dSlA (eVar 2) oNone (oSome (eVar 3)))) f0 = .ret (decide (L.getD x 0 ∉ L.take x)) := by
    unfold tt
    rw [e]
    rfl
  show sIf _ _ _ f0 = _
  unfold sIf
  rw [t, bret]
  by_cases z : decide (L.getD x 0 ∉ L.take x) = true
  · rw [if_pos z, if_pos z]
    have q : eCompR (lCons (eVar 0) lNil) (gN 8) (tt (e2 dEq (e2 dIx (eVar 2) (eVar 8)) (e2 dIx (eVar 2) (eVar 3)))) (eVar 8) [8] f0 = .ret (lD (ringAt c L x)) := by
      rw [compR_eq (lc1 (d := nI c) rfl) (rngOf_n (n := c) (by omega)), rng_n]
      refine end_filter (tgt := gN 8) (env := f0) (dd := nI) (g := nI) (p := fun i => decide (L.getD i 0 = L.getD x 0)) (xs := List.range c) (by rw [List.length_range]; omega) fun y hy => ⟨f0.set 8 (some (.val (nI y))), rfl, ?_, fun _ => rfl⟩
      have hy := List.mem_range.mp hy
      have a1 : e2 dIx (eVar 2) (eVar 8) (f0.set 8 (some (.val (nI y)))) = .ret (nI (L.getD y 0)) := e2_r (x := lD L) (y := nI y) rfl rfl (atL (by omega))
      have a2 : e2 dIx (eVar 2) (eVar 3) (f0.set 8 (some (.val (nI y)))) = .ret (nI (L.getD x 0)) := e2_r (x := lD L) (y := nI x) rfl rfl (atL (by omega))
      unfold tt
      rw [e2_r a1 a2 nI_eq]
      rfl
    have r : eCB dTuple (lCons (eCompR (lCons (eVar 0) lNil) (gN 8) (tt (e2 dEq (e2 dIx (eVar 2) (eVar 8)) (e2 dIx (eVar 2) (eVar 3)))) (eVar 8) [8]) lNil) f0 = .ret (fD (ringAt c L x)) := by
      unfold eCB
      rw [lc1 q]
      rfl
    show ((eCB dTuple _ f0).bind _) = _
    rw [r, bret, if_pos (small1000 (by omega))]
    rfl
  · rw [if_neg z, if_neg z]
    rfl
theorem rings_plcs {c : Nat} {L : List Nat} (hL : L.length = 2 * c) : plcs (L.take c) = ((List.range c).filter fun x => decide (L.getD x 0 ∉ L.take x)).map (ringAt c L) := by
  have hl : (L.take c).length = c := by rw [List.length_take]; omega
  have g : ∀ i, i < c → (L.take c).getD i 0 = L.getD i 0 := fun i hi => by
    rw [List.getD_eq_getElem?_getD, List.getD_eq_getElem?_getD, List.getElem?_take, if_pos hi]
  rw [plcs_firsts]
  unfold firsts
  rw [hl]
  have e : (List.range c).filter (fun i => decide ((L.take c).getD i 0 ∉ (L.take c).take i)) = (List.range c).filter fun x => decide (L.getD x 0 ∉ L.take x) := List.filter_congr fun i hi => by
    have hi := List.mem_range.mp hi
    rw [g i hi, List.take_take, Nat.min_eq_left (by omega)]
  rw [e]
  refine List.map_congr_left fun at_ ha => ?_
  have ha := List.mem_range.mp (List.mem_filter.mp ha).1
  unfold ringAt
  refine List.filter_congr fun i hi => ?_
  have hi := List.mem_range.mp hi
  rw [g i hi, g at_ ha]
theorem v_lawrings {c : Nat} (h5 : c ≤ 5) {A : List Nat} (hA : Val c A) : m_law_ring_pieces [.val (nI c), .val (fD A)] = .ret (ppD (plcs ((clR c A).take c))) := by
  have lA := hA.len
  let e1 : Ev := [some (.val (nI c)), some (.val (fD A)), some (.val (lD A)), none, none, none, none, none, none]
  have s1 : sSet 2 (eCB dList (lCons (eVar 1) lNil)) (startE 9 [.val (nI c), .val (fD A)]) = .ret (.nx e1) := rfl
  have key : ∀ (i : Nat) (L : List Nat) (x : Nat) (env : Ev), (List.range c)[i]? = some x → (∃ d3 d5 d6, env = [some (.val (nI c)), some (.val (fD A)), some (.val (lD L)), d3, none, d5, d6, none, none] ∧ L.length = 2 * c) →
      ∃ env1 env2, gN 3 (nI x) env = some env1 ∧ bRing env1 = .ret (.nx env2) ∧ ∃ d3 d5 d6, env2 = [some (.val (nI c)), some (.val (fD A)), some (.val (lD (merN L (L.getD x 0) (L.getD (c + x) 0)))), d3, none, d5, d6, none, none] ∧ (merN L (L.getD x 0) (L.getD (c + x) 0)).length = 2 * c := by
    rintro i L x env hx ⟨d3, d5, d6, e, hL⟩
    have hxc := rngx hx
    subst e
    let f0 : Ev := [some (.val (nI c)), some (.val (fD A)), some (.val (lD L)), some (.val (nI x)), none, d5, d6, none, none]
    let f1 : Ev := [some (.val (nI c)), some (.val (fD A)), some (.val (lD L)), some (.val (nI x)), none, some (.val (nI (L.getD (c + x) 0))), some (.val (nI (L.getD x 0))), none, none]
    have t1 : eTup (lCons (e2 dIx (eVar 2) (e2 dAddA (eVar 0) (eVar 3))) (lCons (e2 dIx (eVar 2) (eVar 3)) lNil)) f0 = .ret (.tuple [nI (L.getD (c + x) 0), nI (L.getD x 0)]) :=
      tup2 (e2_r (x := lD L) rfl (e2_r (x := nI c) (y := nI x) rfl rfl nI_add) (atL (by omega))) (e2_r (x := lD L) (y := nI x) rfl rfl (atL (by omega)))
    have t2 := asg_two (i := 5) (j := 6) t1
    refine ⟨f0, [some (.val (nI c)), some (.val (fD A)), some (.val (lD (merN L (L.getD x 0) (L.getD (c + x) 0)))), some (.val (nI x)), none, some (.val (nI (L.getD (c + x) 0))), some (.val (nI (L.getD x 0))), none, none], rfl, ?_, _, _, _, rfl, by rw [merN_len, hL]⟩
    refine (seq_nx t2).trans ?_
    have t4 : eCompS (eVar 2) (gN 7) fYes (eIf (tt (e2 dEq (eVar 7) (eVar 5))) (eVar 6) (eVar 7)) [7] f1 = .ret (lD (merN L (L.getD x 0) (L.getD (c + x) 0))) :=
      mer_comp (env := f1) (i := 7) (j := 5) (k := 6) (a := L.getD x 0) (b := L.getD (c + x) 0) (xs := L) (by omega) (by decide) (by decide) (show 7 < 8 + 1 by decide) rfl rfl
    show sSet 2 _ f1 = _
    rw [set_nx t4]
    rfl
  obtain ⟨env', g1, d3, d5, d6, e, hL⟩ := for_all (tgt := gN 3) (dd := nI) _ (fun L i => merN L (L.getD i 0) (L.getD (c + i) 0)) (xs := List.range c) (s := A) (env := e1) ⟨none, none, none, rfl, lA⟩ key
  have e : env' = [some (.val (nI c)), some (.val (fD A)), some (.val (lD (clR c A))), d3, none, d5, d6, none, none] := e
  have hL : (clR c A).length = 2 * c := hL
  have s2 : sForR (lCons (eVar 0) lNil) (gN 3) bRing e1 = .ret (.nx env') := (forR_n (n := c) rfl (by omega)).trans g1
  subst e
  generalize clR c A = L at hL s2 ⊢
  let e2 : Ev := [some (.val (nI c)), some (.val (fD A)), some (.val (lD L)), d3, some (.own (.list [])), d5, d6, none, none]
  have s3 : sSetO 4 (eLst lNil) [some (.val (nI c)), some (.val (fD A)), some (.val (lD L)), d3, none, d5, d6, none, none] = .ret (.nx e2) := rfl
  have key2 : ∀ (i : Nat) (s : List D) (x : Nat) (env : Ev), (List.range c)[i]? = some x → (∃ d3, env = [some (.val (nI c)), some (.val (fD A)), some (.val (lD L)), d3, some (.own (.list s)), d5, d6, none, none] ∧ s.length ≤ i) →
      ∃ env1 env2, gN 3 (nI x) env = some env1 ∧ bRing2 env1 = .ret (.nx env2) ∧ ∃ d3, env2 = [some (.val (nI c)), some (.val (fD A)), some (.val (lD L)), d3, some (.own (.list (if decide (L.getD x 0 ∉ L.take x) = true then s ++ [fD (ringAt c L x)] else s))), d5, d6, none, none] ∧ (if decide (L.getD x 0 ∉ L.take x) = true then s ++ [fD (ringAt c L x)] else s).length ≤ i + 1 := by
    rintro i s x env hx ⟨d3, e, hs⟩
    have hxc := rngx hx
    have hic : i < c := by
      obtain ⟨hi, _⟩ := List.getElem?_eq_some_iff.mp hx
      rwa [List.length_range] at hi
    subst e
    refine ⟨_, _, rfl, ring_step h5 hL hxc (by omega), _, rfl, ?_⟩
    split
    · rw [List.length_append]; simp; omega
    · omega
  obtain ⟨env'', g2, d3', e, hs⟩ := for_all (tgt := gN 3) (dd := nI) _ (fun s x => if decide (L.getD x 0 ∉ L.take x) = true then s ++ [fD (ringAt c L x)] else s) (xs := List.range c) (s := []) (env := e2) ⟨d3, rfl, Nat.le_refl _⟩ key2
  have s4 : sForR (lCons (eVar 0) lNil) (gN 3) bRing2 e2 = .ret (.nx env'') := (forR_n (n := c) rfl (by omega)).trans g2
  rw [fold_keep (fun x => decide (L.getD x 0 ∉ L.take x)) (fun x => fD (ringAt c L x)), List.nil_append] at e
  subst e
  rw [rings_plcs hL]
  unfold m_law_ring_pieces
  refine fn_v ((seq_nx (env := startE 9 [.val (nI c), .val (fD A)]) s1).trans ((seq_nx s2).trans ((seq_nx s3).trans ((seq_nx s4).trans (ret_rv ?_)))))
  unfold ppD
  rw [List.map_map]
  rfl
end FL
end
section
set_option linter.all false
set_option maxRecDepth 100000
namespace FL
open PySem PySem.Spec PyProof.Rows L2 DL FM
/-! ### what is shown -/
theorem ok_app {a b : Str} (ha : PyData.strOk a = true) (hb : PyData.strOk b = true) : PyData.strOk (a ++ b) = true := by
  unfold PyData.strOk at *
  rw [PySem.Str.cps_append, Array.all_append, ha, hb]
  rfl
theorem ok_text : ∀ (ts : List Str) (k : Nat) (acc : Str), PyData.strOk acc = true → (∀ t ∈ ts, PyData.strOk t = true) → PyData.strOk (textFrom k acc ts) = true
  | [], k, acc, h, _ => h
  | t :: ts, k, acc, h, ht => ok_text ts (k + 1) _ (ok_app (ok_app h (by split <;> decide +kernel)) (ht t List.mem_cons_self)) fun y hy => ht y (List.mem_cons_of_mem _ hy)
theorem ok_join : ∀ (ts : List Str), (∀ t ∈ ts, PyData.strOk t = true) → PyData.strOk (Str.join ", " ts) = true
  | [], _ => by decide +kernel
  | [x], h => h x List.mem_cons_self
  | x :: y :: r, h => ok_app (ok_app (h x List.mem_cons_self) (by decide +kernel)) (ok_join (y :: r) fun z hz => h z (List.mem_cons_of_mem _ hz))
structure Sh (d : D) (k w : Nat) : Prop where
  o : PyData.strOk d.shown = true
  s : d.showable = true
  h : d.hasDict = false
  p : d.depth ≤ k
  l : d.shown.length ≤ w
theorem shownAll_map : ∀ xs : List D, PyData.shownAll xs = xs.map PyData.shown
  | [] => rfl
  | x :: xs => by
    rw [List.map_cons, ← shownAll_map xs]
    rfl
theorem showAll {k w : Nat} : ∀ xs : List D, (∀ x ∈ xs, Sh x k w) → PyData.showableAll xs = true ∧ PyData.hasDictAll xs = false ∧ PyData.depthAll xs ≤ k
  | [], _ => ⟨rfl, rfl, Nat.zero_le _⟩
  | x :: xs, h => by
    obtain ⟨h1, h2, h3⟩ := showAll xs fun y hy => h y (List.mem_cons_of_mem _ hy)
    have q := h x List.mem_cons_self
    refine ⟨?_, ?_, ?_⟩
    · show (x.showable && PyData.showableAll xs) = true
      rw [q.s, h1]
      rfl
    · show (x.hasDict || PyData.hasDictAll xs) = false
      rw [q.h, h2]
      rfl
    · show max x.depth (PyData.depthAll xs) ≤ k
      have := q.p
      omega
theorem text_le {w : Nat} : ∀ (ts : List Str) (k : Nat) (acc : Str), (∀ t ∈ ts, t.length ≤ w) → (textFrom k acc ts).length ≤ acc.length + ts.length * (w + 2)
  | [], k, acc, _ => Nat.le_add_right _ _
  | t :: ts, k, acc, h => by
    have ih := text_le ts (k + 1) (acc ++ (if k > 0 then ", " else "" : String) ++ t) fun y hy => h y (List.mem_cons_of_mem _ hy)
    have ht := h t List.mem_cons_self
    have e : (acc ++ (if k > 0 then ", " else "" : String) ++ t).length ≤ acc.length + 2 + t.length := by
      rw [strLen_append, strLen_append]
      split
      · have e2 : ((", " : String) : Str).length = 2 := rfl
        omega
      · have e2 : (("" : String) : Str).length = 0 := rfl
        omega
    show (textFrom (k + 1) (acc ++ (if k > 0 then ", " else "" : String) ++ t) ts).length ≤ _
    rw [List.length_cons, Nat.succ_mul]
    omega
theorem join_le {w : Nat} : ∀ (ts : List Str), (∀ t ∈ ts, t.length ≤ w) → (Str.join ", " ts).length ≤ ts.length * (w + 2)
  | [], _ => Nat.zero_le _
  | [x], h => by
    have := h x List.mem_cons_self
    show x.length ≤ 1 * (w + 2)
    omega
  | x :: y :: r, h => by
    have ih := join_le (y :: r) fun y hy => h y (List.mem_cons_of_mem _ hy)
    have hx := h x List.mem_cons_self
    show (x ++ ", " ++ Str.join ", " (y :: r)).length ≤ _
    rw [strLen_append, strLen_append, List.length_cons, Nat.succ_mul]
    have e2 : ((", " : String) : Str).length = 2 := rfl
    omega
theorem Sh.list {xs : List D} {k w n : Nat} (h : ∀ x ∈ xs, Sh x k w) (hn : xs.length ≤ n) : Sh (.list xs) (k + 1) (2 + n * (w + 2)) := by
  obtain ⟨h1, h2, h3⟩ := showAll xs h
  have h0 : ∀ t ∈ PyData.shownAll xs, PyData.strOk t = true := fun t ht => by
    rw [shownAll_map] at ht
    obtain ⟨x, hx, rfl⟩ := List.mem_map.mp ht
    exact (h x hx).o
  refine ⟨ok_app (ok_text _ _ _ (by decide +kernel) h0) (by decide +kernel), h1, h2, ?_, ?_⟩
  · show PyData.depthAll xs + 1 ≤ k + 1
    omega
  · show (textFrom 0 "[" (PyData.shownAll xs) ++ "]").length ≤ _
    have q := text_le (w := w) (PyData.shownAll xs) 0 "[" fun t ht => by
      rw [shownAll_map] at ht
      obtain ⟨x, hx, rfl⟩ := List.mem_map.mp ht
      exact (h x hx).l
    rw [strLen_append]
    have e1 : (("[" : String) : Str).length = 1 := rfl
    have e2 : (("]" : String) : Str).length = 1 := rfl
    rw [shownAll_map, List.length_map] at q
    have m := Nat.mul_le_mul_right (w + 2) hn
    rw [shownAll_map]
    omega
theorem Sh.tuple {xs : List D} {k w n : Nat} (h : ∀ x ∈ xs, Sh x k w) (hn : xs.length ≤ n) : Sh (.tuple xs) (k + 1) (3 + n * (w + 2)) := by
  obtain ⟨h1, h2, h3⟩ := showAll xs h
  have h0 : ∀ t ∈ PyData.shownAll xs, PyData.strOk t = true := fun t ht => by
    rw [shownAll_map] at ht
    obtain ⟨x, hx, rfl⟩ := List.mem_map.mp ht
    exact (h x hx).o
  refine ⟨ok_app (ok_app (by decide +kernel) (ok_join _ h0)) (by split <;> decide +kernel), h1, h2, ?_, ?_⟩
  · show PyData.depthAll xs + 1 ≤ k + 1
    omega
  · show (("(" : Str) ++ Str.join ", " (PyData.shownAll xs) ++ (if (PyData.shownAll xs).length == 1 then ",)" else ")" : String)).length ≤ _
    have q := join_le (w := w) (PyData.shownAll xs) fun t ht => by
      rw [shownAll_map] at ht
      obtain ⟨x, hx, rfl⟩ := List.mem_map.mp ht
      exact (h x hx).l
    rw [strLen_append, strLen_append]
    have e1 : (("(" : String) : Str).length = 1 := rfl
    rw [shownAll_map, List.length_map] at q
    have m := Nat.mul_le_mul_right (w + 2) hn
    rw [shownAll_map]
    split
    · have e2 : ((",)" : String) : Str).length = 2 := rfl
      omega
    · have e2 : ((")" : String) : Str).length = 1 := rfl
      omega
theorem Sh.mono {d : D} {k w k' w' : Nat} (h : Sh d k w) (hk : k ≤ k') (hw : w ≤ w') : Sh d k' w' := ⟨h.o, h.s, h.h, Nat.le_trans h.p hk, Nat.le_trans h.l hw⟩
theorem sh_all : ((List.range 1000).all fun n => (decide ((nI n).shown.length ≤ 3) && (nI n).showable) && PyData.strOk (nI n).shown) = true := by decide +kernel
theorem Sh.int {n : Nat} (h : n < 1000) : Sh (nI n) 0 3 := by
  have q := List.all_eq_true.mp sh_all n (List.mem_range.mpr h)
  rw [Bool.and_eq_true, Bool.and_eq_true] at q
  exact ⟨q.2, q.1.2, rfl, Nat.le_refl _, of_decide_eq_true q.1.1⟩
theorem v_like {d e : D} {k w : Nat} (h : Sh d k w) (hk : k ≤ 30) (hw : w ≤ 1000) (he : d = e) : m_law_like [.val d, .val e] = .ret (.bool true) := by
  subst he
  have r : dRepr [d] = some (.str d.shown) := by
    exact if_pos ⟨h.s, h.h, Nat.le_trans h.p hk, sl1000 (Nat.le_trans h.l hw)⟩
  have a : eCB dRepr (lCons (eVar 0) lNil) (startE 2 [.val d, .val d]) = .ret (.str d.shown) := by
    unfold eCB
    rw [lc1 (d := d) rfl, bret, r]
    rfl
  have b : eCB dRepr (lCons (eVar 1) lNil) (startE 2 [.val d, .val d]) = .ret (.str d.shown) := by
    unfold eCB
    rw [lc1 (d := d) rfl, bret, r]
    rfl
  have q : dEq (.str d.shown) (.str d.shown) = some (.bool true) := by
    have z : SeqAt.shaped (.str d.shown) = true := by
      show (PyData.strOk d.shown && _) = true
      rw [h.o]
      rfl
    unfold dEq
    rw [if_pos ⟨z, z⟩]
    simp [PyData.eqv]
  unfold m_law_like
  exact fn_v (ret_rv (e2_r a b q))
/-! ### the rings of a figure, shown -/
theorem left_le {c : Nat} (A B : List Nat) : leftL c A B ≤ 4 * c := by
  unfold leftL LEFT
  have h : AL (fg c A) (fg c B) ≤ ((pts2 c).map (T2 (fg c A) (fg c B))).length := cnt_len _
  have l : (pts2 c).length = 4 * c := by
    unfold pts2 blk
    rw [List.length_append, List.length_map, List.length_map, pts1_len]
    omega
  rw [List.length_map, l] at h
  omega
theorem rings_le {c : Nat} {A : List Nat} (hA : Val c A) : ringsL c A ≤ c := by
  rw [← (clR_take hA).2]
  have := cnt_len ((clR c A).take c)
  rw [List.length_take] at this
  omega
theorem rowS_le {c : Nat} (ds : List Deed) : (rowS c ds).2 ≤ 4 * c * ds.length := by
  unfold rowS
  have g : ∀ (ds : List Deed) (s : List Nat × Nat), (ds.foldl (rstep c) s).2 ≤ s.2 + 4 * c * ds.length := by
    intro ds
    induction ds with
    | nil => intro s; exact Nat.le_add_right _ _
    | cons d ds ih =>
      intro s
      have q := ih (rstep c s d)
      have l : (rstep c s d).2 ≤ s.2 + 4 * c := by
        show s.2 + leftL c s.1 (dF c d) ≤ _
        have := left_le (c := c) s.1 (dF c d)
        omega
      rw [List.foldl_cons, List.length_cons, Nat.mul_succ]
      omega
  have := g ds (stL c, 0)
  omega
end FL
end
section
set_option linter.all false
set_option maxRecDepth 100000
namespace FL
open PySem PySem.Spec PyProof.Rows L2 DL FM
/-! ### a drawn row -/
theorem ok_cb1 {g : List D → Option D} {f : FE} {env : Ev} {n : Nat} {P Q : D → Prop} (h : Ok (f env) n P) (k : ∀ d, P d → ∃ x, g [d] = some x ∧ Q x) : Ok (eCB g (lCons f lNil) env) n Q := by
  unfold eCB lCons lNil
  refine (Ok.bind (m := 0) (P := fun ds => ∃ d, ds = [d] ∧ P d) ((Ok.bind (m := 0) h fun d hd => Ok.of (a := [d]) rfl ⟨d, rfl, hd⟩).mono (Nat.le_refl _) fun _ h => h) ?_).mono (by omega) fun _ h => h
  rintro ds ⟨d, rfl, hd⟩
  obtain ⟨x, e, hx⟩ := k d hd
  rw [e]
  exact Ok.ret hx
theorem ok_l1 {f : FE} {env : Ev} {n : Nat} {P : D → Prop} (h : Ok (f env) n P) : Ok (lCons f lNil env) n fun ds => ∃ d, ds = [d] ∧ P d := by
  unfold lCons lNil
  exact (Ok.bind (m := 0) h fun d hd => Ok.of (a := [d]) rfl ⟨d, rfl, hd⟩).mono (Nat.le_refl _) fun _ h => h
theorem ok_compR {r : FL} {tgt : FG} {t : FT} {fe : FE} {vs : List Nat} {env : Ev} {n m : Nat} {P : List D → Prop} {Q : D → Prop} (h : Ok (r env) n P) (k : ∀ ds, P ds → ∃ lo l, rngOf ds = some (lo, l) ∧ Ok (endComp tgt t fe (wipeE env vs) (rngD lo l)) m Q) : Ok (eCompR r tgt t fe vs env) (n + m) Q := by
  unfold eCompR
  refine Ok.bind h fun ds hd => ?_
  obtain ⟨lo, l, e, q⟩ := k ds hd
  rw [e]
  exact q
theorem aO {i : Nat} {r : FA} {env : Ev} {ss : List Slot} (h : env[i]? = some (some .orc)) (hr : r env = .ret ss) : aOrc i r env = .ret (.orc :: ss) := by
  unfold aOrc
  rw [h]
  dsimp only
  rw [hr]
  rfl
theorem ok_callr {F : List Slot → Tr D} {r : FA} {env : Ev} {ss : List Slot} {n : Nat} {Q : D → Prop} (h : r env = .ret ss) (hF : Ok (F ss) n Q) : Ok (eCall F r env) n Q := by
  rw [call_r h rfl]
  exact hF
def cRow : FE := eCompR (lCons (eCall m_law_draw (aOrc 0 (aVal (e2 dAddA (eVar 3) (eC (.int 1))) aNil))) lNil) (gN 5) fYes (eCall m_law_of (aOrc 0 (aVal (eVar 4) aNil))) [5]
def rE (c M : Nat) (F L : D) : Ev := [some .orc, some (.val (nI c)), some (.val F), some (.val (nI M)), some (.val L), none]
theorem ok_cRow {c M : Nat} (hM : M ≤ 10) {F : D} {L : List D} (h0 : L ≠ []) (hl : L.length < 1000) : Ok (cRow (rE c M F (.list L))) 11 fun d => ∃ ys, d = .list ys ∧ ys.length ≤ 10 ∧ ∀ y ∈ ys, y ∈ L := by
  have q1 : Ok (lCons (eCall m_law_draw (aOrc 0 (aVal (e2 dAddA (eVar 3) (eC (.int 1))) aNil))) lNil (rE c M F (.list L))) 1 fun ds => ∃ d, ds = [d] ∧ ∃ i, i < M + 1 ∧ d = nI i := ok_l1 (ok_callr (aO rfl (a1 (e2_r (x := nI M) (y := nI 1) rfl rfl nI_add))) (ok_draw (l := M + 1) (by omega) (by omega)))
  unfold cRow
  refine (ok_compR (m := 10) q1 ?_).mono (by decide) fun _ h => h
  rintro ds ⟨d, rfl, i, hi, rfl⟩
  refine ⟨0, i, rngOf_n (by omega), ?_⟩
  have q := end_ok (tgt := gN 5) (t := fYes) (fe := eCall m_law_of (aOrc 0 (aVal (eVar 4) aNil))) (env := wipeE (rE c M F (.list L)) [5]) (P := fun y => y ∈ L) (k := 1) (ds := rngD 0 i) (by rw [rng_n, List.length_map, List.length_range]; omega) fun d _ => ⟨(wipeE (rE c M F (.list L)) [5]).set 5 (some (.val d)), rfl, rfl, by
    show Ok (m_law_of [.orc, .val (.list L)]) 1 _
    exact ok_of h0 hl⟩
  have ll : (rngD 0 i).length = i := by rw [rng_n, List.length_map, List.length_range]
  rw [ll] at q
  refine q.mono (by omega) ?_
  rintro d ⟨ys, e, l, hy⟩
  exact ⟨ys, e, by omega, hy⟩
theorem deeds_few {c : Nat} (h5 : c ≤ 5) {ws : List Nat} (hw : ws.length ≤ 4) : (deedsOf c ws).length ≤ 20 := by
  unfold deedsOf
  have g : ∀ ws : List Nat, (ws.flatMap fun w => (List.range (most c w)).map fun p => ((w, p) : Deed)).length ≤ 5 * ws.length := by
    intro ws
    induction ws with
    | nil => exact Nat.le_refl _
    | cons w ws ih =>
      rw [List.flatMap_cons, List.length_append, List.length_cons, List.length_map, List.length_range]
      have : most c w ≤ 5 := by unfold most; split <;> omega
      omega
  have := g ws
  omega
theorem fams_len : ∀ ws ∈ fams, ws.length ≤ 4 := by decide
theorem ok_rowM {c M : Nat} (hM : M ≤ 10) (h1 : 1 ≤ c) (h5 : c ≤ 5) {ws : List Nat} (hw : ws ∈ fams) : Ok (m_law_row [.orc, .val (nI c), .val (famD ws), .val (nI M)]) 11 fun d => ∃ ds, d = rowD ds ∧ ds.length ≤ 10 ∧ ∀ d ∈ ds, d ∈ deedsOf c [0, 1, 2, 3] := by
  obtain ⟨f1, f2, f3⟩ := fam_ok h1 h5 hw
  have e : m_law_row = fnF 6 .v (sSeq (sSet 4 (eCall m_law_deeds (aVal (eVar 1) (aVal (eVar 2) aNil)))) (sSeq (sIf (tt (e2 dEq (eVar 4) (eLst lNil))) (sRet (eTup lNil)) sNext) (sRet (eCB dTuple (lCons cRow lNil))))) := rfl
  rw [e]
  refine ok_fn ?_
  have s1 : sSet 4 (eCall m_law_deeds (aVal (eVar 1) (aVal (eVar 2) aNil))) (startE 6 [.orc, .val (nI c), .val (famD ws), .val (nI M)]) = .ret (.nx (rE c M (famD ws) (.list ((deedsOf c ws).map dD)))) := set_nx (call_r (aC (d := nI c) rfl (a1 (d := famD ws) rfl)) f1)
  rw [seq_nx s1]
  have t : tt (e2 dEq (eVar 4) (eLst lNil)) (rE c M (famD ws) (.list ((deedsOf c ws).map dD))) = .ret (deedsOf c ws).isEmpty := by
    have q : e2 dEq (eVar 4) (eLst lNil) (rE c M (famD ws) (.list ((deedsOf c ws).map dD))) = .ret (.bool (deedsOf c ws).isEmpty) := e2_r (x := .list ((deedsOf c ws).map dD)) (y := .list []) rfl rfl f2
    unfold tt
    rw [q]
    rfl
  by_cases z : deedsOf c ws = []
  · have s2 : sIf (tt (e2 dEq (eVar 4) (eLst lNil))) (sRet (eTup lNil)) sNext (rE c M (famD ws) (.list ((deedsOf c ws).map dD))) = .ret (.rv (rowD [])) := by
      unfold sIf
      rw [t, z]
      rfl
    unfold sSeq
    rw [s2]
    exact (Ok.ret (a := Out.rv (rowD [])) ⟨rowD [], rfl, [], rfl, Nat.zero_le _, fun _ h => nomatch h⟩).mono (Nat.zero_le _) fun _ h => h
  · have s2 : sIf (tt (e2 dEq (eVar 4) (eLst lNil))) (sRet (eTup lNil)) sNext (rE c M (famD ws) (.list ((deedsOf c ws).map dD))) = .ret (.nx (rE c M (famD ws) (.list ((deedsOf c ws).map dD)))) := by
      unfold sIf
      have : (deedsOf c ws).isEmpty = false := by simpa using z
      rw [t, this]
      rfl
    rw [seq_nx s2]
    refine ok_sret ?_
    refine ok_cb1 (ok_cRow hM (c := c) (F := famD ws) (L := (deedsOf c ws).map dD) (by simpa using z) (by
      rw [List.length_map]
      have := deeds_few (c := c) h5 (fams_len ws hw)
      omega)) ?_
    rintro d ⟨ys, rfl, l, hy⟩
    obtain ⟨ds, e, hd⟩ := deeds_of hy
    refine ⟨.tuple ys, rfl, ds, by rw [e]; rfl, ?_, fun d h => f3 d (hd d h)⟩
    rw [e, List.length_map] at l
    exact l
theorem ok_row {c : Nat} (h1 : 1 ≤ c) (h5 : c ≤ 5) {ws : List Nat} (hw : ws ∈ fams) : Ok (m_law_row [.orc, .val (nI c), .val (famD ws), .val (nI 10)]) 11 fun d => ∃ ds, d = rowD ds ∧ ds.length ≤ 10 ∧ ∀ d ∈ ds, d ∈ deedsOf c [0, 1, 2, 3] := ok_rowM (M := 10) (Nat.le_refl _) h1 h5 hw
/-! ### the first deed put last -/
theorem cut_takeD (L : List D) (n : Nat) : DL.cutD L none (some (n : Int)) = L.take n := by
  unfold DL.cutD
  rw [HT.sIx_none, HT.sIx_nat, List.drop_zero, Nat.sub_zero]
  by_cases h : n ≤ L.length
  · rw [Nat.min_eq_left h]
  · rw [Nat.min_eq_right (by omega), List.take_of_length_le (Nat.le_refl _), List.take_of_length_le (by omega)]
theorem cut_dropD (L : List D) (n : Nat) : DL.cutD L (some (n : Int)) none = L.drop n := by
  unfold DL.cutD
  rw [HT.sIx_none, HT.sIx_nat]
  by_cases h : n ≤ L.length
  · rw [Nat.min_eq_left h, List.take_of_length_le (by simp)]
  · rw [Nat.min_eq_right (by omega), List.drop_of_length_le (by omega : L.length ≤ n)]
    simp
theorem round_data {i : Nat} {env : Ev} {ds : List Deed} (hl : ds.length ≤ 40) (h : eVar i env = .ret (rowD ds)) : e2 dAddA (eSl dSlA (eVar i) (oSome (eC (.int 1))) oNone) (eSl dSlA (eVar i) oNone (oSome (eC (.int 1)))) env = .ret (rowD (ds.drop 1 ++ ds.take 1)) := by
  have a : eSl dSlA (eVar i) (oSome (eC (.int 1))) oNone env = .ret (rowD (ds.drop 1)) := by
    unfold eSl
    rw [h, bret]
    show Tr.ofOpt (some (PyData.tuple (DL.cutD (ds.map dD) (some ((1 : Nat) : Int)) none))) = _
    rw [cut_dropD]
    unfold rowD
    rw [List.map_drop]
    rfl
  have b : eSl dSlA (eVar i) oNone (oSome (eC (.int 1))) env = .ret (rowD (ds.take 1)) := by
    unfold eSl
    rw [h, bret]
    show Tr.ofOpt (some (PyData.tuple (DL.cutD (ds.map dD) none (some ((1 : Nat) : Int))))) = _
    rw [cut_takeD]
    unfold rowD
    rw [List.map_take]
    rfl
  refine e2_r a b ?_
  unfold rowD dAddA
  have e : dAdd (.tuple ((ds.drop 1).map dD)) (.tuple ((ds.take 1).map dD)) = some (.tuple ((ds.drop 1 ++ ds.take 1).map dD)) := by
    unfold dAdd
    dsimp only
    rw [if_pos (by
      rw [List.length_map, List.length_map, List.length_drop, List.length_take]
      exact sl1000 (by omega)), List.map_append]
  rw [e]
theorem rowS_L (c : Nat) (ds : List Deed) : rowS c ds = rowL c (ds.map (dF c)) := by
  unfold rowS rowL rowF
  rw [List.foldl_map]
  rfl
theorem rowS_round {c : Nat} (h1 : 1 ≤ c) (h5 : c ≤ 5) {ds : List Deed} (hd : ∀ d ∈ ds, d ∈ deedsOf c [0, 1, 2, 3]) : ringsL c (rowS c ds).1 + (rowS c ds).2 = ringsL c (rowS c (ds.drop 1 ++ ds.take 1)).1 + (rowS c (ds.drop 1 ++ ds.take 1)).2 := by
  cases ds with
  | nil => rfl
  | cons d ds =>
    have v := (deed_ok h1 h5 (hd d List.mem_cons_self)).val
    have q := row_round (dF c d) (ds.map (dF c)) v
    show _ = ringsL c (rowS c (ds ++ [d])).1 + (rowS c (ds ++ [d])).2
    rw [rowS_L, rowS_L, List.map_append]
    exact q
end FL
end
section
set_option linter.all false
set_option maxRecDepth 100000
namespace FL
open PySem PySem.Spec PyProof.Rows L2 DL FM
/-! ### the law's own statements -/
def st0 : FS := (sSet 3 (e2 dAddA (eC (.int 1)) (eCall m_law_draw (aOrc 1 (aVal (eC (.int 5)) aNil)))))
def st1 : FS := (sPar false false 7 8 (eCall m_law_some_figure (aOrc 1 (aVal (eVar 3) aNil))) (eCall m_law_some_figure (aOrc 1 (aVal (eVar 3) aNil))))
def st2 : FS := (sSet 4 (eCall m_law_row (aOrc 1 (aVal (eVar 3) (aVal (eCall m_law_some_family (aOrc 1 aNil)) (aVal (eC (.int 10)) aNil))))))
def st3 : FS := (sIf (tt (e2 dEq (eCall m_law_draw (aOrc 1 (aVal (eC (.int 2)) aNil))) (eC (.int 0)))) (sSet 7 (e2 dIx (eCall m_law_figure (aVal (eVar 3) (aVal (eVar 4) aNil))) (eC (.int 0)))) sNext)
def st4 : FS := (sSet 5 (eCall m_law_ring_pieces (aVal (eVar 3) (aVal (eVar 7) aNil))))
def st5 : FS := (sSet 6 (eLst (lCons (eCall m_ring_pieces (aVal (eVar 3) (aVal (eVar 7) aNil))) (lCons (eCall m_rings (aVal (eVar 3) (aVal (eVar 7) aNil))) (lCons (eCall m_rings (aReo 2 [1, 0] (aVal (eVar 7) (aVal (eVar 3) aNil)))) lNil)))))
def st6 : FS := (sIf (bNot (tt (eCall m_law_like (aVal (eVar 6) (aVal (eLst (lCons (eVar 5) (lCons (eCB dLenA (lCons (eVar 5) lNil)) (lCons (eCB dLenA (lCons (eVar 5) lNil)) lNil)))) aNil))))) (sRet (eC (.bool false))) sNext)
def st7 : FS := (sAsg (eCall m_law_upon (aVal (eVar 3) (aVal (eVar 7) (aVal (eVar 8) aNil)))) (gT 2 (gsCons (gN 9) (gsCons (gN 10) gsNil))))
def st8 : FS := (sSet 5 (e2 dAddA (eCB dLenA (lCons (eCall m_law_ring_pieces (aVal (eVar 3) (aVal (eVar 9) aNil))) lNil)) (eVar 10)))
def st9 : FS := (sSet 6 (eLst (lCons (eCall m_rings_of_both (aVal (eVar 3) (aVal (eVar 7) (aVal (eVar 8) aNil)))) (lCons (eCall m_rings_of_both (aReo 3 [2, 1, 0] (aVal (eVar 7) (aVal (eVar 8) (aVal (eVar 3) aNil))))) lNil))))
def st10 : FS := (sIf (bNot (tt (eCall m_law_like (aVal (eVar 6) (aVal (eLst (lCons (eVar 5) (lCons (eVar 5) lNil))) aNil))))) (sRet (eC (.bool false))) sNext)
def st11 : FS := (sAsg (eCall m_law_figure (aVal (eVar 3) (aVal (eVar 4) aNil))) (gT 2 (gsCons (gN 9) (gsCons (gN 10) gsNil))))
def st12 : FS := (sSet 5 (e2 dAddA (eCB dLenA (lCons (eCall m_law_ring_pieces (aVal (eVar 3) (aVal (eVar 9) aNil))) lNil)) (eVar 10)))
def st13 : FS := (sSet 6 (eLst (lCons (eCall m_row_rings (aVal (eVar 3) (aVal (eVar 4) aNil))) (lCons (eCall m_row_rings (aReo 2 [1, 0] (aVal (e2 dAddA (eSl dSlA (eVar 4) (oSome (eC (.int 1))) oNone) (eSl dSlA (eVar 4) oNone (oSome (eC (.int 1))))) (aVal (eVar 3) aNil)))) lNil))))
def st14 : FS := (sIf (bNot (tt (eCall m_law_like (aVal (eVar 6) (aVal (eLst (lCons (eVar 5) (lCons (eVar 5) lNil))) aNil))))) (sRet (eC (.bool false))) sNext)
def st15 : FS := (sSet 6 (eLst (lCons (eCall m_rings (aVal (eVar 3) (aVal (eCall m_law_over (aVal (eVar 3) (aVal (eVar 7) aNil))) aNil))) (lCons (eCall m_rings (aVal (eVar 3) (aVal (eCall m_law_mirrored (aVal (eVar 3) (aVal (eVar 7) aNil))) aNil))) lNil))))
def st16 : FS := (sSet 5 (eCB dLenA (lCons (eCall m_law_ring_pieces (aVal (eVar 3) (aVal (eVar 7) aNil))) lNil)))
def st17 : FS := (sIf (bNot (tt (eCall m_law_like (aVal (e2 dAddA (eVar 6) (eLst (lCons (eCB dLenA (lCons (eCall m_ring_pieces (aReo 2 [1, 0] (aVal (eVar 7) (aVal (eVar 3) aNil)))) lNil)) lNil))) (aVal (eLst (lCons (eVar 5) (lCons (eVar 5) (lCons (eVar 5) lNil)))) aNil))))) (sRet (eC (.bool false))) sNext)
def tail38 : FS := sSeq st4 (sSeq st5 (sSeq st6 (sSeq st7 (sSeq st8 (sSeq st9 (sSeq st10 (sSeq st11 (sSeq st12 (sSeq st13 (sSeq st14 (sSeq st15 (sSeq st16 (st17)))))))))))))
def body38 : FS := sSeq st0 (sSeq st1 (sSeq st2 (sSeq st3 tail38)))
def rest38 : FS := sSeq (sForR (lCons (e2 dAddA (eC (.int 1)) (eCB dMin2 (lCons (eC (.int 4)) (lCons (eCB dLenA (lCons (eVar 0) lNil)) lNil)))) lNil) (gN 2) body38) (sRet (eC (.bool true)))
def fr (S : D) (c : Nat) (R X Y : D) (d2 d5 d6 d9 d10 : Option Slot) : Ev := [some (.val S), some .orc, d2, some (.val (nI c)), some (.val R), d5, d6, some (.val X), some (.val Y), d9, d10]
theorem lst2 {fa fb : FE} {env : Ev} {x y : D} (ha : fa env = .ret x) (hb : fb env = .ret y) : eLst (lCons fa (lCons fb lNil)) env = .ret (.list [x, y]) := by
  have e : lCons fa (lCons fb lNil) env = .ret [x, y] := by
    show (fa env).bind _ = _
    rw [ha, bret, lc1 hb]
    rfl
  unfold eLst
  rw [e, bret]
  exact if_pos (show 2 ≤ sizeLine by decide)
theorem lst3 {fa fb fc : FE} {env : Ev} {x y z : D} (ha : fa env = .ret x) (hb : fb env = .ret y) (hc : fc env = .ret z) : eLst (lCons fa (lCons fb (lCons fc lNil))) env = .ret (.list [x, y, z]) := by
  have e : lCons fa (lCons fb (lCons fc lNil)) env = .ret [x, y, z] := by
    show (fa env).bind _ = _
    rw [ha, bret]
    show ((lCons fb (lCons fc lNil) env).bind _) = _
    have e : lCons fb (lCons fc lNil) env = .ret [y, z] := by
      show (fb env).bind _ = _
      rw [hb, bret, lc1 hc]
      rfl
    rw [e]
    rfl
  unfold eLst
  rw [e, bret]
  exact if_pos (show 3 ≤ sizeLine by decide)
theorem lst1 {fa : FE} {env : Ev} {x : D} (ha : fa env = .ret x) : eLst (lCons fa lNil) env = .ret (.list [x]) := by
  unfold eLst
  rw [lc1 ha, bret]
  exact if_pos (show 1 ≤ sizeLine by decide)
theorem len_pp {f : FE} {env : Ev} {ls : List (List Nat)} (h : f env = .ret (ppD ls)) : eCB dLenA (lCons f lNil) env = .ret (nI ls.length) := by
  unfold eCB
  rw [lc1 h]
  show Tr.ret (PyData.int ((ls.map fun l => fD l).length : Nat)) = _
  rw [List.length_map]
  rfl
theorem like_nx {r : FA} {env : Ev} {d e : D} {k w : Nat} (hr : r env = .ret [.val d, .val e]) (h : Sh d k w) (hk : k ≤ 30) (hw : w ≤ 1000) (he : d = e) : sIf (bNot (tt (eCall m_law_like r))) (sRet (eC (.bool false))) sNext env = .ret (.nx env) := by
  unfold sIf bNot tt
  rw [call_r hr (v_like h hk hw he)]
  rfl
abbrev PP (c : Nat) (A : List Nat) : List (List Nat) := plcs ((clR c A).take c)
theorem PP_len {c : Nat} {A : List Nat} (hA : Val c A) : (PP c A).length = ringsL c A := by
  rw [plcs_len, (clR_take hA).2]
theorem PP_in {c : Nat} {A : List Nat} (h5 : c ≤ 5) (hA : Val c A) : Sh (ppD (PP c A)) 2 153 := by
  have hl : ((clR c A).take c).length = c := cl_len hA
  have n5 : (PP c A).length ≤ 5 := by
    rw [PP_len hA]
    exact Nat.le_trans (rings_le hA) h5
  unfold ppD
  refine (Sh.tuple (k := 1) (w := 28) (n := 5) (fun x hx => ?_) (by rw [List.length_map]; exact n5)).mono (Nat.le_refl _) (by decide)
  obtain ⟨l, h, rfl⟩ := List.mem_map.mp hx
  refine Sh.tuple (k := 0) (w := 3) (n := 5) (fun y hy => ?_) ?_
  · obtain ⟨n, hn, rfl⟩ := List.mem_map.mp hy
    unfold PP plcs at h
    obtain ⟨k, _, rfl⟩ := List.mem_map.mp h
    have := List.mem_range.mp (List.mem_filter.mp hn).1
    exact Sh.int (by omega)
  · rw [nL_len]
    unfold PP plcs at h
    obtain ⟨k, _, rfl⟩ := List.mem_map.mp h
    refine Nat.le_trans (List.length_filter_le _ _) ?_
    rw [List.length_range]
    omega
section
variable {S R Y : D} {c : Nat} {d2 d5 d6 d9 d10 : Option Slot} {A B : List Nat} {ds : List Deed}
theorem t4 (h5 : c ≤ 5) (hA : Val c A) : st4 (fr S c R (fD A) Y d2 d5 d6 d9 d10) = .ret (.nx (fr S c R (fD A) Y d2 (some (.val (ppD (PP c A)))) d6 d9 d10)) := set_nx (call_r (aC (d := nI c) rfl (a1 (d := fD A) rfl)) (v_lawrings h5 hA))
theorem reo2 {x y : Slot} : reo 2 [1, 0] (.val .none) [x, y] = [y, x] := rfl
theorem reo3 {x y z : Slot} : reo 3 [2, 1, 0] (.val .none) [x, y, z] = [z, y, x] := rfl
theorem t5 (h1 : 1 ≤ c) (h5 : c ≤ 5) (hA : Val c A) : st5 (fr S c R (fD A) Y d2 d5 d6 d9 d10) = .ret (.nx (fr S c R (fD A) Y d2 d5 (some (.val (.list [ppD (PP c A), nI (ringsL c A), nI (ringsL c A)]))) d9 d10)) := by
  have a : eCall m_ring_pieces (aVal (eVar 3) (aVal (eVar 7) aNil)) (fr S c R (fD A) Y d2 d5 d6 d9 d10) = .ret (ppD (PP c A)) := call_r (aC (d := nI c) rfl (a1 (d := fD A) rfl)) (v_ring_pieces h1 h5 hA)
  have b : eCall m_rings (aVal (eVar 3) (aVal (eVar 7) aNil)) (fr S c R (fD A) Y d2 d5 d6 d9 d10) = .ret (nI (ringsL c A)) := call_r (aC (d := nI c) rfl (a1 (d := fD A) rfl)) (v_rings h1 h5 hA)
  have e : eCall m_rings (aReo 2 [1, 0] (aVal (eVar 7) (aVal (eVar 3) aNil))) (fr S c R (fD A) Y d2 d5 d6 d9 d10) = .ret (nI (ringsL c A)) := call_r (aR (aC (d := fD A) rfl (a1 (d := nI c) rfl))) (v_rings h1 h5 hA)
  exact set_nx (lst3 a b e)
theorem t6 (h5 : c ≤ 5) (hA : Val c A) : st6 (fr S c R (fD A) Y d2 (some (.val (ppD (PP c A)))) (some (.val (.list [ppD (PP c A), nI (ringsL c A), nI (ringsL c A)]))) d9 d10) = .ret (.nx (fr S c R (fD A) Y d2 (some (.val (ppD (PP c A)))) (some (.val (.list [ppD (PP c A), nI (ringsL c A), nI (ringsL c A)]))) d9 d10)) := by
  have l : ∀ env, eVar 5 env = .ret (ppD (PP c A)) → eCB dLenA (lCons (eVar 5) lNil) env = .ret (nI (ringsL c A)) := fun env h => by
    rw [len_pp h, PP_len hA]
  refine like_nx (aC (d := .list [ppD (PP c A), nI (ringsL c A), nI (ringsL c A)]) rfl (a1 (lst3 (x := ppD (PP c A)) rfl (l _ rfl) (l _ rfl)))) (Sh.list (k := 2) (w := 153) (n := 3) ?_ (Nat.le_refl 3)) (by decide) (by decide) rfl
  have := rings_le hA
  intro x hx
  rcases List.mem_cons.mp hx with rfl | hx
  · exact PP_in h5 hA
  · rcases List.mem_cons.mp hx with rfl | hx
    · exact (Sh.int (by omega)).mono (by decide) (by decide)
    · rcases List.mem_cons.mp hx with rfl | hx
      · exact (Sh.int (by omega)).mono (by decide) (by decide)
      · cases hx
theorem t7 (h1 : 1 ≤ c) (h5 : c ≤ 5) (hA : Val c A) (hB : Val c B) : st7 (fr S c R (fD A) (fD B) d2 d5 d6 d9 d10) = .ret (.nx (fr S c R (fD A) (fD B) d2 d5 d6 (some (.val (fD (uponL c A B)))) (some (.val (nI (leftL c A B)))))) := asg_two (i := 9) (j := 10) (call_r (aC (d := nI c) rfl (aC (d := fD A) rfl (a1 (d := fD B) rfl))) (v_lawup h1 h5 hA hB))
theorem t8 (h5 : c ≤ 5) {X : D} {C : List Nat} {n : Nat} (hC : Val c C) : st8 (fr S c R X Y d2 d5 d6 (some (.val (fD C))) (some (.val (nI n)))) = .ret (.nx (fr S c R X Y d2 (some (.val (nI (ringsL c C + n)))) d6 (some (.val (fD C))) (some (.val (nI n))))) := by
  have a : eCB dLenA (lCons (eCall m_law_ring_pieces (aVal (eVar 3) (aVal (eVar 9) aNil))) lNil) (fr S c R X Y d2 d5 d6 (some (.val (fD C))) (some (.val (nI n)))) = .ret (nI (ringsL c C)) := by
    rw [len_pp (call_r (aC (d := nI c) rfl (a1 (d := fD C) rfl)) (v_lawrings h5 hC)), PP_len hC]
  exact set_nx (e2_r a (y := nI n) rfl nI_add)
theorem t9 (h1 : 1 ≤ c) (h5 : c ≤ 5) (hA : Val c A) (hB : Val c B) : st9 (fr S c R (fD A) (fD B) d2 d5 d6 d9 d10) = .ret (.nx (fr S c R (fD A) (fD B) d2 d5 (some (.val (.list [nI (ringsL c (uponL c A B) + leftL c A B), nI (ringsL c (uponL c B A) + leftL c B A)]))) d9 d10)) :=
  set_nx (lst2 (call_r (aC (d := nI c) rfl (aC (d := fD A) rfl (a1 (d := fD B) rfl))) (v_both h1 h5 hA hB)) (call_r (aR (aC (d := fD A) rfl (aC (d := fD B) rfl (a1 (d := nI c) rfl)))) (v_both h1 h5 hB hA)))
theorem two_in {a b : Nat} (ha : a < 1000) (hb : b < 1000) : Sh (.list [nI a, nI b]) 1 12 := by
  refine (Sh.list (xs := [nI a, nI b]) (k := 0) (w := 3) (n := 2) ?_ (Nat.le_refl 2)).mono (by decide) (by decide)
  intro x hx
  rcases List.mem_cons.mp hx with rfl | hx
  · exact Sh.int ha
  · rcases List.mem_cons.mp hx with rfl | hx
    · exact Sh.int hb
    · cases hx
theorem t10 {X : D} {a b : Nat} (ha : a < 1000) (e : a = b) : st10 (fr S c R X Y d2 (some (.val (nI a))) (some (.val (.list [nI a, nI b]))) d9 d10) = .ret (.nx (fr S c R X Y d2 (some (.val (nI a))) (some (.val (.list [nI a, nI b]))) d9 d10)) := by
  subst e
  exact like_nx (aC (d := .list [nI a, nI a]) rfl (a1 (lst2 (x := nI a) (y := nI a) rfl rfl))) (two_in ha ha) (by decide) (by decide) rfl
theorem t11 (h1 : 1 ≤ c) (h5 : c ≤ 5) {X : D} (hd : ∀ d ∈ ds, d ∈ deedsOf c [0, 1, 2, 3]) : st11 (fr S c (rowD ds) X Y d2 d5 d6 d9 d10) = .ret (.nx (fr S c (rowD ds) X Y d2 d5 d6 (some (.val (fD (rowS c ds).1))) (some (.val (nI (rowS c ds).2))))) := asg_two (i := 9) (j := 10) (call_r (aC (d := nI c) rfl (a1 (d := rowD ds) rfl)) (v_lawfig h1 h5 hd).1)
theorem t13 (h1 : 1 ≤ c) (h5 : c ≤ 5) {X : D} (hl : ds.length ≤ 40) (hd : ∀ d ∈ ds, d ∈ deedsOf c [0, 1, 2, 3]) : st13 (fr S c (rowD ds) X Y d2 d5 d6 d9 d10) = .ret (.nx (fr S c (rowD ds) X Y d2 d5 (some (.val (.list [nI (ringsL c (rowS c ds).1 + (rowS c ds).2), nI (ringsL c (rowS c (ds.drop 1 ++ ds.take 1)).1 + (rowS c (ds.drop 1 ++ ds.take 1)).2)]))) d9 d10)) := by
  have l2 : (ds.drop 1 ++ ds.take 1).length ≤ 40 := by rw [List.length_append, List.length_drop, List.length_take]; omega
  have d2' : ∀ d ∈ ds.drop 1 ++ ds.take 1, d ∈ deedsOf c [0, 1, 2, 3] := fun d h => by
    rcases List.mem_append.mp h with h | h
    · exact hd d (List.mem_of_mem_drop h)
    · exact hd d (List.mem_of_mem_take h)
  have q : e2 dAddA (eSl dSlA (eVar 4) (oSome (eC (.int 1))) oNone) (eSl dSlA (eVar 4) oNone (oSome (eC (.int 1)))) (fr S c (rowD ds) X Y d2 d5 d6 d9 d10) = .ret (rowD (ds.drop 1 ++ ds.take 1)) := round_data hl rfl
  exact set_nx (lst2 (call_r (aC (d := nI c) rfl (a1 (d := rowD ds) rfl)) (v_row_rings h1 h5 hl hd)) (call_r (aR (aC q (a1 (d := nI c) rfl))) (v_row_rings h1 h5 l2 d2')))
theorem t15 (h1 : 1 ≤ c) (h5 : c ≤ 5) (hA : Val c A) : st15 (fr S c R (fD A) Y d2 d5 d6 d9 d10) = .ret (.nx (fr S c R (fD A) Y d2 d5 (some (.val (.list [nI (ringsL c A), nI (ringsL c A)]))) d9 d10)) := by
  obtain ⟨o1, o2⟩ := rings_overL hA
  obtain ⟨g1, g2⟩ := rings_glassL hA
  have a : eCall m_law_over (aVal (eVar 3) (aVal (eVar 7) aNil)) (fr S c R (fD A) Y d2 d5 d6 d9 d10) = .ret (fD (renum (A.drop c ++ A.take c))) := call_r (aC (d := nI c) rfl (a1 (d := fD A) rfl)) (v_over h5 hA)
  have b : eCall m_law_mirrored (aVal (eVar 3) (aVal (eVar 7) aNil)) (fr S c R (fD A) Y d2 d5 d6 d9 d10) = .ret (fD (renum ((A.take c).reverse ++ (A.drop c).reverse))) := call_r (aC (d := nI c) rfl (a1 (d := fD A) rfl)) (v_mirrored h5 hA)
  have a2 := v_rings h1 h5 o1
  have b2 := v_rings h1 h5 g1
  rw [o2] at a2
  rw [g2] at b2
  exact set_nx (lst2 (call_r (aC (d := nI c) rfl (a1 a)) a2) (call_r (aC (d := nI c) rfl (a1 b)) b2))
theorem t16 (h5 : c ≤ 5) (hA : Val c A) : st16 (fr S c R (fD A) Y d2 d5 d6 d9 d10) = .ret (.nx (fr S c R (fD A) Y d2 (some (.val (nI (ringsL c A)))) d6 d9 d10)) := by
  have a : eCB dLenA (lCons (eCall m_law_ring_pieces (aVal (eVar 3) (aVal (eVar 7) aNil))) lNil) (fr S c R (fD A) Y d2 d5 d6 d9 d10) = .ret (nI (ringsL c A)) := by
    rw [len_pp (call_r (aC (d := nI c) rfl (a1 (d := fD A) rfl)) (v_lawrings h5 hA)), PP_len hA]
  exact set_nx a
theorem t17 (h1 : 1 ≤ c) (h5 : c ≤ 5) (hA : Val c A) : st17 (fr S c R (fD A) Y d2 (some (.val (nI (ringsL c A)))) (some (.val (.list [nI (ringsL c A), nI (ringsL c A)]))) d9 d10) = .ret (.nx (fr S c R (fD A) Y d2 (some (.val (nI (ringsL c A)))) (some (.val (.list [nI (ringsL c A), nI (ringsL c A)]))) d9 d10)) := by
  have hr := rings_le hA
  have a : eCB dLenA (lCons (eCall m_ring_pieces (aReo 2 [1, 0] (aVal (eVar 7) (aVal (eVar 3) aNil)))) lNil) (fr S c R (fD A) Y d2 (some (.val (nI (ringsL c A)))) (some (.val (.list [nI (ringsL c A), nI (ringsL c A)]))) d9 d10) = .ret (nI (ringsL c A)) := by
    have a0 : eCall m_ring_pieces (aReo 2 [1, 0] (aVal (eVar 7) (aVal (eVar 3) aNil))) (fr S c R (fD A) Y d2 (some (.val (nI (ringsL c A)))) (some (.val (.list [nI (ringsL c A), nI (ringsL c A)]))) d9 d10) = .ret (ppD (PP c A)) := call_r (aR (aC (d := fD A) rfl (a1 (d := nI c) rfl))) (v_ring_pieces h1 h5 hA)
    rw [len_pp a0, PP_len hA]
  have e : dAddA (.list [nI (ringsL c A), nI (ringsL c A)]) (.list [nI (ringsL c A)]) = some (.list [nI (ringsL c A), nI (ringsL c A), nI (ringsL c A)]) := cat_n (xs := [ringsL c A, ringsL c A]) (ys := [ringsL c A]) (show 2 + 1 ≤ 1000 by decide)
  refine like_nx (aC (e2_r (x := .list [nI (ringsL c A), nI (ringsL c A)]) rfl (lst1 a) e) (a1 (lst3 (x := nI (ringsL c A)) (y := nI (ringsL c A)) (z := nI (ringsL c A)) rfl rfl rfl))) (Sh.list (k := 0) (w := 3) (n := 3) ?_ (Nat.le_refl 3)) (by decide) (by decide) rfl
  intro x hx
  rcases List.mem_cons.mp hx with rfl | hx
  · exact Sh.int (by omega)
  · rcases List.mem_cons.mp hx with rfl | hx
    · exact Sh.int (by omega)
    · rcases List.mem_cons.mp hx with rfl | hx
      · exact Sh.int (by omega)
      · cases hx
theorem run2 {f g : FS} {env env' : Ev} {P : Ev → Prop} (h : f env = .ret (.nx env')) (k : ∃ e, g env' = .ret (.nx e) ∧ P e) : ∃ e, sSeq f g env = .ret (.nx e) ∧ P e := by
  obtain ⟨e, q, p⟩ := k
  exact ⟨e, (seq_nx h).trans q, p⟩
theorem tail_ok (h1 : 1 ≤ c) (h5 : c ≤ 5) (hA : Val c A) (hB : Val c B) (hl : ds.length ≤ 10) (hd : ∀ d ∈ ds, d ∈ deedsOf c [0, 1, 2, 3]) : ∃ e, tail38 (fr S c (rowD ds) (fD A) (fD B) d2 d5 d6 d9 d10) = .ret (.nx e) ∧ ∃ e5 e6 e9 e10, e = fr S c (rowD ds) (fD A) (fD B) d2 e5 e6 e9 e10 := by
  have hv := (v_lawfig h1 h5 hd).2
  have b1 : ringsL c (uponL c A B) + leftL c A B < 1000 := by
    have := rings_le (upon_val c A B)
    have := left_le (c := c) A B
    omega
  have b2 : ringsL c (rowS c ds).1 + (rowS c ds).2 < 1000 := by
    have := rings_le hv
    have h := rowS_le (c := c) ds
    have := Nat.mul_le_mul (Nat.mul_le_mul_left 4 h5) hl
    omega
  unfold tail38
  refine run2 (t4 h5 hA) (run2 (t5 h1 h5 hA) (run2 (t6 h5 hA) (run2 (t7 h1 h5 hA hB) (run2 (t8 h5 (upon_val c A B)) (run2 (t9 h1 h5 hA hB) (run2 (t10 b1 (uponL_trace A B)) ?_))))))
  refine run2 (t11 h1 h5 hd) (run2 (t8 h5 hv) (run2 (t13 h1 h5 (by omega) hd) (run2 (t10 b2 (rowS_round h1 h5 hd)) (run2 (t15 h1 h5 hA) (run2 (t16 h5 hA) ?_)))))
  exact ⟨_, t17 h1 h5 hA, _, _, _, _, rfl⟩
end
end FL
end
section
set_option linter.all false
set_option maxRecDepth 100000
namespace FL
open PySem PySem.Spec PyProof.Rows L2 DL FM
/-! ### the law's loop -/
theorem ok_seq {f g : FS} {env : Ev} {n m : Nat} {P : Ev → Prop} {Q : Out → Prop} (h : Ok (f env) n fun o => ∃ e, o = .nx e ∧ P e) (k : ∀ e, P e → Ok (g e) m Q) : Ok (sSeq f g env) (n + m) Q := by
  unfold sSeq
  refine Ok.bind h fun o ⟨e, eo, he⟩ => ?_
  subst eo
  exact k e he
theorem ok_set {i : Nat} {f : FE} {env : Ev} {n : Nat} {P : D → Prop} (h : Ok (f env) n P) : Ok (sSet i f env) n fun o => ∃ e, o = .nx e ∧ ∃ d, P d ∧ e = env.set i (some (.val d)) := by
  unfold sSet
  exact (Ok.bind (m := 0) h fun d hd => Ok.ret ⟨_, rfl, d, hd, rfl⟩).mono (Nat.le_refl _) fun _ h => h
theorem ok_par {i j : Nat} {f g : FE} {env : Ev} {n m : Nat} {P Q : D → Prop} (h : Ok (f env) n P) (k : Ok (g env) m Q) : Ok (sPar false false i j f g env) (n + m) fun o => ∃ e, o = .nx e ∧ ∃ x y, P x ∧ Q y ∧ e = setS false j y (setS false i x env) := by
  unfold sPar
  exact Ok.bind h fun x hx => (Ok.bind (m := 0) k fun y hy => Ok.ret ⟨_, rfl, x, y, hx, hy, rfl⟩).mono (Nat.le_refl _) fun _ h => h
theorem ok_e2r {g : D → D → Option D} {fa fb : FE} {env : Ev} {x : D} {n : Nat} {P Q : D → Prop} (ha : fa env = .ret x) (hb : Ok (fb env) n P) (k : ∀ y, P y → ∃ z, g x y = some z ∧ Q z) : Ok (e2 g fa fb env) n Q := by
  unfold e2
  rw [ha, bret]
  refine (Ok.bind (m := 0) hb fun y hy => ?_).mono (Nat.le_refl _) fun _ h => h
  obtain ⟨z, e, hz⟩ := k y hy
  rw [e]
  exact Ok.ret hz
theorem ok_e2l {g : D → D → Option D} {fa fb : FE} {env : Ev} {y : D} {n : Nat} {P Q : D → Prop} (ha : Ok (fa env) n P) (hb : fb env = .ret y) (k : ∀ x, P x → ∃ z, g x y = some z ∧ Q z) : Ok (e2 g fa fb env) n Q := by
  unfold e2
  refine (Ok.bind (m := 0) ha fun x hx => ?_).mono (Nat.le_refl _) fun _ h => h
  rw [hb, bret]
  obtain ⟨z, e, hz⟩ := k x hx
  rw [e]
  exact Ok.ret hz
theorem ok_tt {f : FE} {env : Ev} {n : Nat} (h : Ok (f env) n fun d => ∃ b, d = .bool b) : Ok (tt f env) n fun _ => True := by
  unfold tt
  refine (Ok.bind (m := 0) h fun d ⟨b, e⟩ => ?_).mono (Nat.le_refl _) fun _ h => h
  subst e
  exact Ok.ret trivial
theorem ok_if {c : FT} {f g : FS} {env : Ev} {n m : Nat} {Q : Out → Prop} (h : Ok (c env) n fun _ => True) (hf : Ok (f env) m Q) (hg : Ok (g env) m Q) : Ok (sIf c f g env) (n + m) Q := by
  unfold sIf
  refine Ok.bind h fun b _ => ?_
  cases b
  · exact hg
  · exact hf
theorem ok_for {tgt : FG} {body : FS} {I : Ev → Prop} {k : Nat} : ∀ (ds : List D) (env : Ev), I env → (∀ d env, I env → ∃ env1, tgt d env = some env1 ∧ Ok (body env1) k fun o => ∃ e, o = .nx e ∧ I e) → Ok (forD tgt body ds env) (k * ds.length) fun o => ∃ e, o = .nx e ∧ I e
  | [], env, h, _ => Ok.ret ⟨env, rfl, h⟩
  | d :: ds, env, h, st => by
    obtain ⟨e1, h1, q⟩ := st d env h
    rw [forD, h1]
    refine (Ok.bind (m := k * ds.length) q fun o ⟨e, eo, he⟩ => ?_).mono (by rw [List.length_cons, Nat.mul_succ]; omega) fun _ h => h
    subst eo
    exact ok_for ds e he st
theorem lc2 {f g : FE} {env : Ev} {x y : D} (h : f env = .ret x) (k : g env = .ret y) : lCons f (lCons g lNil) env = .ret [x, y] := by
  show (f env).bind _ = _
  rw [h, bret, lc1 k]
  rfl
theorem cb_r {g : List D → Option D} {r : FL} {env : Ev} {ds : List D} {x : D} (h : r env = .ret ds) (k : g ds = some x) : eCB g r env = .ret x := by
  unfold eCB
  rw [h, bret, k]
  rfl
/-- what is free -/
def frI (S : D) (e : Ev) : Prop := ∃ d2 d3 d4 d5 d6 d7 d8 d9 d10, e = [some (.val S), some .orc, d2, d3, d4, d5, d6, d7, d8, d9, d10]
section
variable {S : D} {d2 d3 d4 d5 d6 d7 d8 d9 d10 : Option Slot} {c : Nat}
theorem k0 : Ok (st0 [some (.val S), some .orc, d2, d3, d4, d5, d6, d7, d8, d9, d10]) 1 fun o => ∃ e, o = .nx e ∧ ∃ c, (1 ≤ c ∧ c ≤ 5) ∧ e = [some (.val S), some .orc, d2, some (.val (nI c)), d4, d5, d6, d7, d8, d9, d10] := by
  have q : Ok (eCall m_law_draw (aOrc 1 (aVal (eC (.int 5)) aNil)) [some (.val S), some .orc, d2, d3, d4, d5, d6, d7, d8, d9, d10]) 1 fun d => ∃ i, i < 5 ∧ d = nI i := ok_callr (ss := [.orc, .val (nI 5)]) rfl (ok_draw (l := 5) (by decide) (by decide))
  unfold st0
  refine (ok_set (P := fun d => ∃ c, (1 ≤ c ∧ c ≤ 5) ∧ d = nI c) (ok_e2r (x := nI 1) rfl q ?_)).mono (Nat.le_refl _) ?_
  · rintro y ⟨i, hi, rfl⟩
    exact ⟨_, nI_add, 1 + i, ⟨by omega, by omega⟩, rfl⟩
  · rintro o ⟨e, eo, d, ⟨c, hc, rfl⟩, ee⟩
    exact ⟨e, eo, c, hc, ee⟩
theorem k1 (h1 : 1 ≤ c) (h5 : c ≤ 5) : Ok (st1 [some (.val S), some .orc, d2, some (.val (nI c)), d4, d5, d6, d7, d8, d9, d10]) (2 * c + 2 * c) fun o => ∃ e, o = .nx e ∧ ∃ A B, (Val c A ∧ Val c B) ∧ e = [some (.val S), some .orc, d2, some (.val (nI c)), d4, d5, d6, some (.val (fD A)), some (.val (fD B)), d9, d10] := by
  have q : Ok (eCall m_law_some_figure (aOrc 1 (aVal (eVar 3) aNil)) [some (.val S), some .orc, d2, some (.val (nI c)), d4, d5, d6, d7, d8, d9, d10]) (2 * c) fun d => ∃ xs, Val c xs ∧ d = fD xs := ok_callr (aO rfl (a1 (d := nI c) rfl)) (ok_some_figure h1 h5)
  unfold st1
  refine (ok_par q q).mono (Nat.le_refl _) ?_
  rintro o ⟨e, eo, x, y, ⟨A, hA, rfl⟩, ⟨B, hB, rfl⟩, ee⟩
  exact ⟨e, eo, A, B, ⟨hA, hB⟩, ee⟩
theorem k2 (h1 : 1 ≤ c) (h5 : c ≤ 5) {X Y : D} : Ok (st2 [some (.val S), some .orc, d2, some (.val (nI c)), d4, d5, d6, some (.val X), some (.val Y), d9, d10]) 16 fun o => ∃ e, o = .nx e ∧ ∃ ds, (ds.length ≤ 10 ∧ ∀ d ∈ ds, d ∈ deedsOf c [0, 1, 2, 3]) ∧ e = fr S c (rowD ds) X Y d2 d5 d6 d9 d10 := by
  have f : Ok (eCall m_law_some_family (aOrc 1 aNil) [some (.val S), some .orc, d2, some (.val (nI c)), d4, d5, d6, some (.val X), some (.val Y), d9, d10]) 5 fun d => ∃ ws, ws ∈ fams ∧ d = famD ws := ok_callr (ss := [.orc]) rfl ok_some_family
  have a2 : Ok (aVal (eCall m_law_some_family (aOrc 1 aNil)) (aVal (eC (.int 10)) aNil) [some (.val S), some .orc, d2, some (.val (nI c)), d4, d5, d6, some (.val X), some (.val Y), d9, d10]) 5 fun ss => ∃ ws, ws ∈ fams ∧ ss = [.val (famD ws), .val (nI 10)] := by
    unfold aVal
    refine (Ok.bind (m := 0) f fun d ⟨ws, hw, e⟩ => ?_).mono (Nat.le_refl _) fun _ h => h
    subst e
    exact Ok.of (a := [.val (famD ws), .val (nI 10)]) rfl ⟨ws, hw, rfl⟩
  have a1' : Ok (aOrc 1 (aVal (eVar 3) (aVal (eCall m_law_some_family (aOrc 1 aNil)) (aVal (eC (.int 10)) aNil))) [some (.val S), some .orc, d2, some (.val (nI c)), d4, d5, d6, some (.val X), some (.val Y), d9, d10]) 5 fun ss => ∃ ws, ws ∈ fams ∧ ss = [.orc, .val (nI c), .val (famD ws), .val (nI 10)] := by
    show Ok ((Tr.bind ((aVal (eCall m_law_some_family (aOrc 1 aNil)) (aVal (eC (.int 10)) aNil) [some (.val S), some .orc, d2, some (.val (nI c)), d4, d5, d6, some (.val X), some (.val Y), d9, d10]).bind fun ss => .ret (.val (nI c) :: ss)) fun ss => .ret (.orc :: ss))) 5 _
    refine (Ok.bind (m := 0) (P := fun ss => ∃ ws, ws ∈ fams ∧ ss = [.val (nI c), .val (famD ws), .val (nI 10)]) ((Ok.bind (m := 0) a2 ?_).mono (Nat.le_refl _) fun _ h => h) ?_).mono (Nat.le_refl _) fun _ h => h
    · rintro ss ⟨ws, hw, rfl⟩
      exact Ok.ret ⟨ws, hw, rfl⟩
    · rintro ss ⟨ws, hw, rfl⟩
      exact Ok.ret ⟨ws, hw, rfl⟩
  unfold st2
  refine (ok_set (n := 16) (P := fun d => ∃ ds, d = rowD ds ∧ ds.length ≤ 10 ∧ ∀ d ∈ ds, d ∈ deedsOf c [0, 1, 2, 3]) ((ok_call (m := 11) a1' ?_).mono (Nat.le_refl _) fun _ h => h)).mono (Nat.le_refl _) ?_
  · rintro ss ⟨ws, hw, rfl⟩
    exact ok_row h1 h5 hw
  · rintro o ⟨e, eo, d, ⟨ds, rfl, hl, hd⟩, ee⟩
    exact ⟨e, eo, ds, ⟨hl, hd⟩, ee⟩
theorem k3 (h1 : 1 ≤ c) (h5 : c ≤ 5) {A : List Nat} {Y : D} {ds : List Deed} (hA : Val c A) (hd : ∀ d ∈ ds, d ∈ deedsOf c [0, 1, 2, 3]) : Ok (st3 (fr S c (rowD ds) (fD A) Y d2 d5 d6 d9 d10)) 1 fun o => ∃ e, o = .nx e ∧ ∃ A', Val c A' ∧ e = fr S c (rowD ds) (fD A') Y d2 d5 d6 d9 d10 := by
  have q : Ok (eCall m_law_draw (aOrc 1 (aVal (eC (.int 2)) aNil)) (fr S c (rowD ds) (fD A) Y d2 d5 d6 d9 d10)) 1 fun d => ∃ i, i < 2 ∧ d = nI i := ok_callr (ss := [.orc, .val (nI 2)]) rfl (ok_draw (l := 2) (by decide) (by decide))
  obtain ⟨f1, f2⟩ := v_lawfig h1 h5 hd
  have g : e2 dIx (eCall m_law_figure (aVal (eVar 3) (aVal (eVar 4) aNil))) (eC (.int 0)) (fr S c (rowD ds) (fD A) Y d2 d5 d6 d9 d10) = .ret (fD (rowS c ds).1) := e2_r (call_r (aC (d := nI c) rfl (a1 (d := rowD ds) rfl)) f1) (y := .int 0) rfl rfl
  unfold st3
  refine (ok_if (m := 0) (ok_tt (ok_e2l (y := nI 0) q rfl ?_)) ?_ ?_).mono (Nat.le_refl _) fun _ h => h
  · rintro x ⟨i, hi, rfl⟩
    exact ⟨_, nI_eq, _, rfl⟩
  · have sg : sSet 7 (e2 dIx (eCall m_law_figure (aVal (eVar 3) (aVal (eVar 4) aNil))) (eC (.int 0))) (fr S c (rowD ds) (fD A) Y d2 d5 d6 d9 d10) = .ret (.nx (fr S c (rowD ds) (fD (rowS c ds).1) Y d2 d5 d6 d9 d10)) := set_nx g
    exact Ok.of sg ⟨_, rfl, (rowS c ds).1, f2, rfl⟩
  · exact Ok.of (a := Out.nx (fr S c (rowD ds) (fD A) Y d2 d5 d6 d9 d10)) rfl ⟨_, rfl, A, hA, rfl⟩
end
theorem ok_body {S : D} {e : Ev} (h : frI S e) : Ok (body38 e) 38 fun o => ∃ e, o = .nx e ∧ frI S e := by
  obtain ⟨d2, d3, d4, d5, d6, d7, d8, d9, d10, rfl⟩ := h
  unfold body38
  refine (ok_seq (m := 37) k0 ?_).mono (by decide) fun _ h => h
  rintro e ⟨c, ⟨h1, h5⟩, rfl⟩
  have q1 := @k1 S d2 d4 d5 d6 d7 d8 d9 d10 c h1 h5
  refine (ok_seq (m := 17) q1 ?_).mono (by omega) fun _ h => h
  rintro e ⟨A, B, ⟨hA, hB⟩, rfl⟩
  refine (ok_seq (m := 1) (k2 h1 h5) ?_).mono (by decide) fun _ h => h
  rintro e ⟨ds, ⟨hl, hd⟩, rfl⟩
  refine (ok_seq (m := 0) (k3 h1 h5 hA hd) ?_).mono (by decide) fun _ h => h
  rintro e ⟨A', hA', rfl⟩
  obtain ⟨e, q, e5, e6, e9, e10, ee⟩ := tail_ok (S := S) (d2 := d2) (d5 := d5) (d6 := d6) (d9 := d9) (d10 := d10) h1 h5 hA' hB hl hd
  exact Ok.of q ⟨e, rfl, _, _, _, _, _, _, _, _, _, ee⟩
theorem rest38_ok : RestOk 9 rest38 := by
  intro ns hn
  have l0 : eCB dMin2 (lCons (eC (.int 4)) (lCons (eCB dLenA (lCons (eVar 0) lNil)) lNil)) (env0 9 ns) = .ret (nI (min 4 ns.length)) := by
    have a : eCB dLenA (lCons (eVar 0) lNil) (env0 9 ns) = .ret (nI ns.length) := by
      show Tr.ret (PyData.int ((ns.map PyData.int).length : Nat)) = _
      rw [List.length_map]
      rfl
    refine cb_r (lc2 (x := nI 4) (y := nI ns.length) rfl a) ?_
    show some (PyData.int (if (ns.length : Int) < 4 then (ns.length : Int) else 4)) = _
    unfold nI
    congr 2
    split <;> omega
  have l1 : e2 dAddA (eC (.int 1)) (eCB dMin2 (lCons (eC (.int 4)) (lCons (eCB dLenA (lCons (eVar 0) lNil)) lNil))) (env0 9 ns) = .ret (nI (1 + min 4 ns.length)) := e2_r (x := nI 1) rfl l0 nI_add
  have key : Ok (rest38 (env0 9 ns)) (38 * (1 + min 4 ns.length)) fun o => o = .rv (.bool true) := by
    unfold rest38
    have q := ok_for (tgt := gN 2) (body := body38) (I := frI (scrD (ns.map PyData.int))) (k := 38) ((List.range (1 + min 4 ns.length)).map nI) (env0 9 ns) ⟨none, none, none, none, none, none, none, none, none, rfl⟩ fun d e h => by
      obtain ⟨d2, d3, d4, d5, d6, d7, d8, d9, d10, rfl⟩ := h
      exact ⟨_, rfl, ok_body ⟨_, _, _, _, _, _, _, _, _, rfl⟩⟩
    rw [← forR_n (f := e2 dAddA (eC (.int 1)) (eCB dMin2 (lCons (eC (.int 4)) (lCons (eCB dLenA (lCons (eVar 0) lNil)) lNil)))) l1 (by omega), List.length_map, List.length_range] at q
    exact (ok_seq (m := 0) q fun e he => Ok.of (a := .rv (.bool true)) rfl rfl).mono (Nat.le_refl _) fun _ h => h
  refine ⟨38 * (1 + min 4 ns.length), by omega, ?_⟩
  exact Tr.All_mono (key.run _ (Nat.le_refl _)) fun o c h => h.2
end FL
end
section
set_option linter.all false
set_option maxRecDepth 100000
namespace FL
open PySem PySem.Spec PyProof.Rows L2 DL
def m_need_number : List Slot → Tr D := fnF 3 .v (sIf (bNot (tt (eCall m_is_between (aVal (eVar 0) (aVal (eVar 1) (aVal (eVar 2) aNil)))))) (fun _ => .fail) sNext)
def m_need_power : List Slot → Tr D := fnF 3 .v (sSeq (sExpr (eCall m_need_cords (aVal (eVar 0) aNil))) (sSeq (sExpr (eCall m_need_figure (aVal (eVar 0) (aVal (eVar 1) aNil)))) (sExpr (eCall m_need_number (aVal (eVar 2) (aVal (eC (.int 0)) (aVal (eC (.int 1000000000)) aNil)))))))
def m_course_of : List Slot → Tr D := fnF 6 .v (sSeq (sSetO 2 (eLst (lCons (eCall m_straight_figure (aVal (eVar 0) aNil)) lNil))) (sSeq (sSetO 3 (eLst (lCons (eC (.int 0)) lNil))) (sSeq (whileD (tt (e2 (dInA true) (e2 dIx (eVarB 2) (eNeg (eC (.int 1)))) (eSl dSlA (eVarB 2) oNone (oSome (eNeg (eC (.int 1))))))) (sSeq (sAsg (eCall m_put_together (aVal (eVar 0) (aVal (e2 dIx (eVarB 2) (eNeg (eC (.int 1)))) (aVal (eVar 1) aNil)))) (gT 2 (gsCons (gN 4) (gsCons (gN 5) gsNil)))) (sSeq (sApp 2 (eVar 4)) (sApp 3 (e2 dAddA (e2 dIx (eVarB 3) (eNeg (eC (.int 1)))) (eVar 5))))) 1000000) (fun env => (fun env => (sRet (eTup (lCons (eIdxA (eVar 2) (e2 dIx (eVar 2) (eNeg (eC (.int 1))))) (lCons (eVar 2) (lCons (eVar 3) lNil))))) (frz 3 env)) (frz 2 env)))))
def m_power_and_leftovers : List Slot → Tr D := fnF 9 .v (sSeq (sAsg (eCall m_course_of (aVal (eVar 0) (aVal (eVar 1) aNil))) (gT 3 (gsCons (gN 4) (gsCons (gN 5) (gsCons (gN 6) gsNil))))) (sSeq (sIf (tt (e2 dLt (eVar 2) (eVar 4))) (sRet (eTup (lCons (e2 dIx (eVar 5) (eVar 2)) (lCons (e2 dIx (eVar 6) (eVar 2)) lNil)))) sNext) (sSeq (sAsg (eCB dDivmod (lCons (e2 dSub (eVar 2) (eVar 4)) (lCons (e2 dSub (e2 dSub (eCB dLenA (lCons (eVar 5) lNil)) (eC (.int 1))) (eVar 4)) lNil))) (gT 2 (gsCons (gN 7) (gsCons (gN 8) gsNil)))) (sSeq (sSet 3 (e2 dSub (e2 dIx (eVar 6) (eNeg (eC (.int 1)))) (e2 dIx (eVar 6) (eVar 4)))) (sRet (eTup (lCons (e2 dIx (eVar 5) (e2 dAddA (eVar 4) (eVar 8))) (lCons (e2 dAddA (e2 dIx (eVar 6) (e2 dAddA (eVar 4) (eVar 8))) (e2 dMul (eVar 7) (eVar 3))) lNil))))))))
def m_first_and_step : List Slot → Tr D := fnF 5 .v (sSeq (sAsg (eCall m_course_of (aVal (eVar 0) (aVal (eVar 1) aNil))) (gT 3 (gsCons (gN 2) (gsCons (gN 3) (gsCons (gN 4) gsNil))))) (sRet (eTup (lCons (eVar 2) (lCons (e2 dSub (e2 dSub (eCB dLenA (lCons (eVar 3) lNil)) (eC (.int 1))) (eVar 2)) lNil)))))
def m_power : List Slot → Tr D := fnF 3 .v (sSeq (sExpr (eCall m_need_power (aVal (eVar 0) (aVal (eVar 1) (aVal (eVar 2) aNil))))) (sRet (e2 dIx (eCall m_power_and_leftovers (aVal (eVar 0) (aVal (eVar 1) (aVal (eVar 2) aNil)))) (eC (.int 0)))))
def m_comes_round : List Slot → Tr D := fnF 2 .v (sSeq (sExpr (eCall m_need_cords (aVal (eVar 0) aNil))) (sSeq (sExpr (eCall m_need_figure (aVal (eVar 0) (aVal (eVar 1) aNil)))) (sRet (eCall m_first_and_step (aVal (eVar 0) (aVal (eVar 1) aNil))))))
def m_powers_of : List Slot → Tr D := fnF 2 .v (sSeq (sExpr (eCall m_need_cords (aVal (eVar 0) aNil))) (sSeq (sExpr (eCall m_need_figure (aVal (eVar 0) (aVal (eVar 1) aNil)))) (sRet (eCB dTuple (lCons (eSl dSlA (e2 dIx (eCall m_course_of (aVal (eVar 0) (aVal (eVar 1) aNil))) (eC (.int 1))) oNone (oSome (eNeg (eC (.int 1))))) lNil)))))
def m_law_any_figure : List Slot → Tr D := fnF 4 .v (sSeq (sSet 2 (eCall m_law_draw (aOrc 0 (aVal (eC (.int 3)) aNil)))) (sSeq (sIf (tt (e2 dEq (eVar 2) (eC (.int 0)))) (sRet (eCall m_law_some_figure (aOrc 0 (aVal (eVar 1) aNil)))) sNext) (sSeq (sSet 3 (eIf (tt (e2 dEq (eVar 2) (eC (.int 1)))) (eCall m_law_some_family (aOrc 0 aNil)) (eTup (lCons (eC (.str "swap")) lNil)))) (sRet (e2 dIx (eCall m_law_figure (aVal (eVar 1) (aVal (eCall m_law_row (aOrc 0 (aVal (eVar 1) (aVal (eVar 3) (aVal (eC (.int 9)) aNil))))) aNil))) (eC (.int 0)))))))
def m_law_powers : List Slot → Tr D := fnF 5 .v (sSeq (sSetO 2 (eLst (lCons (eCall m_law_straight (aVal (eVar 0) aNil)) lNil))) (sSeq (sForR (lCons (eC (.int 40)) lNil) (gN 3) (sSeq (sSet 4 (e2 dIx (eCall m_law_upon (aVal (eVar 0) (aVal (e2 dIx (eVarB 2) (eNeg (eC (.int 1)))) (aVal (eVar 1) aNil)))) (eC (.int 0)))) (sSeq (sIf (tt (e2 (dInA false) (eVar 4) (eVarB 2))) (fun env => (sRet (eTup (lCons (eVar 2) (lCons (eIdxA (eVar 2) (eVar 4)) lNil)))) (frz 2 env)) sNext) (sApp 2 (eVar 4))))) (fun env => (sRet (eTup (lCons (eVar 2) (lCons (eNeg (eC (.int 1))) lNil)))) (frz 2 env))))
end FL
end
section
set_option linter.all false
/-! Powers of a figure of at most five cords come round within forty turns. Plain mathematics. -/
namespace FM
/-! ### what only shrinks stands still -/
section
variable {ι : Type}
theorem count_le {p q : ι → Bool} : ∀ {l : List ι}, (∀ i ∈ l, q i = true → p i = true) → (l.filter q).length ≤ (l.filter p).length ∧ ((l.filter q).length = (l.filter p).length → ∀ i ∈ l, q i = p i)
  | [], _ => ⟨Nat.le_refl _, fun _ _ h => nomatch h⟩
  | x :: l, h => by
    obtain ⟨h1, h2⟩ := count_le (l := l) fun i hi => h i (List.mem_cons_of_mem _ hi)
    have hx := h x List.mem_cons_self
    rw [List.filter_cons, List.filter_cons]
    cases hq : q x <;> cases hp : p x
    · refine ⟨by simpa using h1, fun e i hi => ?_⟩
      rcases List.mem_cons.mp hi with rfl | hi
      · rw [hq, hp]
      · exact h2 (by simpa using e) i hi
    · refine ⟨by simp; omega, fun e => ?_⟩
      simp at e
      omega
    · rw [hq, hp] at hx
      exact absurd (hx rfl) (by decide)
    · refine ⟨by simpa using h1, fun e i hi => ?_⟩
      rcases List.mem_cons.mp hi with rfl | hi
      · rw [hq, hp]
      · exact h2 (by simpa using e) i hi
theorem settle (b : Nat → ι → Bool) (qs : List ι) (mono : ∀ n i, b (n + 1) i = true → b n i = true) (step : ∀ n m, (∀ i ∈ qs, b n i = b m i) → ∀ i ∈ qs, b (n + 1) i = b (m + 1) i) : ∀ n, qs.length ≤ n → ∀ i ∈ qs, b n i = b qs.length i := by
  have go : ∀ m, (∀ i ∈ qs, b (m + 1) i = b m i) → ∀ k, ∀ i ∈ qs, b (m + k) i = b m i := by
    intro m h k
    induction k with
    | zero => intro i _; rfl
    | succ k ih =>
      intro i hi
      rw [← Nat.add_assoc, step (m + k) m ih i hi]
      exact h i hi
  have ex : ∃ m, m ≤ qs.length ∧ ∀ i ∈ qs, b (m + 1) i = b m i := by
    refine Classical.byContradiction fun no => ?_
    have dn : ∀ m, m ≤ qs.length + 1 → (qs.filter (b m)).length + m ≤ qs.length := by
      intro m
      induction m with
      | zero => intro _; exact List.length_filter_le _ _
      | succ m ih =>
        intro hm
        have q := ih (by omega)
        obtain ⟨c1, c2⟩ := count_le (p := b m) (q := b (m + 1)) (l := qs) fun i _ => mono m i
        have : (qs.filter (b (m + 1))).length ≠ (qs.filter (b m)).length := fun e => no ⟨m, by omega, c2 e⟩
        omega
    have := dn (qs.length + 1) (Nat.le_refl _)
    omega
  obtain ⟨m, hm, h⟩ := ex
  intro n hn i hi
  have a := go m h (n - m) i hi
  have c := go m h (qs.length - m) i hi
  rw [show m + (n - m) = n by omega] at a
  rw [show m + (qs.length - m) = qs.length by omega] at c
  rw [a, c]
end
section
variable {c : Nat}
abbrev Ix (c : Nat) := (Fin c × Fin c) ⊕ Fin c
open Classical in
/-- of the bottom points: which are apart, and which are joined with the other side -/
noncomputable def td (F : Fg c) : Ix c → Bool
  | .inl (x, y) => decide (F (false, x) ≠ F (false, y))
  | .inr x => decide (∃ y, F (false, x) = F (true, y))
def ixs (c : Nat) : List (Ix c) := ((List.finRange c).flatMap fun x => (List.finRange c).map fun y => .inl (x, y)) ++ (List.finRange c).map .inr
theorem ixs_all (i : Ix c) : i ∈ ixs c := by
  unfold ixs
  cases i with
  | inl p => exact List.mem_append_left _ (List.mem_flatMap.mpr ⟨p.1, List.mem_finRange _, List.mem_map.mpr ⟨p.2, List.mem_finRange _, rfl⟩⟩)
  | inr x => exact List.mem_append_right _ (List.mem_map.mpr ⟨x, List.mem_finRange _, rfl⟩)
theorem ixs_len (c : Nat) : (ixs c).length = c * c + c := by
  have g : ∀ l : List (Fin c), (l.flatMap fun x => (List.finRange c).map fun y => (.inl (x, y) : Ix c)).length = l.length * c := by
    intro l
    induction l with
    | nil => simp
    | cons x l ih => rw [List.flatMap_cons, List.length_append, ih, List.length_map, List.length_finRange, List.length_cons, Nat.succ_mul, Nat.add_comm]
  unfold ixs
  rw [List.length_append, g, List.length_map, List.length_finRange]
theorem td_inl {F G : Fg c} (h : td F = td G) (x y : Fin c) : F (false, x) = F (false, y) ↔ G (false, x) = G (false, y) := by
  have q := congrFun h (.inl (x, y))
  unfold td at q
  simp only [decide_eq_decide] at q
  exact Decidable.not_iff_not.mp q
theorem td_inr {F G : Fg c} (h : td F = td G) (x : Fin c) : (∃ y, F (false, x) = F (true, y)) ↔ ∃ y, G (false, x) = G (true, y) := by
  have q := congrFun h (.inr x)
  unfold td at q
  simpa only [decide_eq_decide] using q
theorem td_of {F G : Fg c} (h1 : ∀ x y, F (false, x) = F (false, y) ↔ G (false, x) = G (false, y)) (h2 : ∀ x, (∃ y, F (false, x) = F (true, y)) ↔ ∃ y, G (false, x) = G (true, y)) : td F = td G := by
  funext i
  unfold td
  cases i with
  | inl p => simp only [decide_eq_decide]; exact not_congr (h1 p.1 p.2)
  | inr x => simp only [decide_eq_decide]; exact h2 x
theorem td_kf {F G : Fg c} (h : KF F G) : td F = td G := td_of (fun x y => h _ _) fun x => ⟨fun ⟨y, e⟩ => ⟨y, (h _ _).mp e⟩, fun ⟨y, e⟩ => ⟨y, (h _ _).mpr e⟩⟩
/-- UP as a figure of whole numbers has the kernel of the joining; said of any figure with it -/
theorem up_le {F A G : Fg c} (hG : KF G (UP F A)) (i : Ix c) (h : td G i = true) : td F i = true := by
  unfold td at h ⊢
  cases i with
  | inl p =>
    have h := of_decide_eq_true h
    exact decide_eq_true fun e => h ((hG _ _).mpr (glue_ker (by
      show ((0, F (false, p.1)) : Nat × Nat) = (0, F (false, p.2))
      rw [e])))
  | inr x =>
    obtain ⟨y, hy⟩ := of_decide_eq_true h
    refine decide_eq_true (Classical.byContradiction fun no => ?_)
    have q : T2 F A (0, false, x) = T2 F A (1, true, y) := (hG _ _).mp hy
    have e := EG.of_glue q
    have r := EG.to (g := fun p : Pt c => decide (lab (two F A) p = (0, F (false, x)))) (fun a b ab => by rw [ab]) (fun a b ab => by
      obtain ⟨i, hi⟩ := mem_prs.mp ab
      cases hi
      have n1 : ¬ lab (two F A) (0, true, i) = (0, F (false, x)) := fun z => no ⟨i, by
        have : ((0, F (true, i)) : Nat × Nat) = (0, F (false, x)) := z
        exact (Prod.mk.inj this).2.symm⟩
      have n2 : ¬ lab (two F A) (1, false, i) = (0, F (false, x)) := fun z => by
        have : (1 : Nat) = 0 := (Prod.mk.inj z).1
        omega
      show decide (lab (two F A) (0, true, i) = _) = decide (lab (two F A) (1, false, i) = _)
      rw [decide_eq_false n1, decide_eq_false n2]) e
    have t1 : decide (lab (two F A) (0, false, x) = (0, F (false, x))) = true := decide_eq_true rfl
    have t2 : decide (lab (two F A) (1, true, y) = (0, F (false, x))) = false := decide_eq_false fun z => by
      have : (1 : Nat) = 0 := (Prod.mk.inj z).1
      omega
    have r : decide (lab (two F A) (0, false, x) = (0, F (false, x))) = decide (lab (two F A) (1, true, y) = (0, F (false, x))) := r
    rw [t1, t2] at r
    cases r
/-- the points of A and the bottom points of F -/
def SA (p : Pt c) : Prop := p.1 = 0 ∨ (p.1 = 1 ∧ p.2.1 = false)
theorem near_ke {A F G : Fg c} (h : ∀ x y, F (false, x) = F (false, y) ↔ G (false, x) = G (false, y)) : KE SA (T2 A F) (T2 A G) := by
  refine glue_ke (fun a b ha hb => ?_) fun r hr => by
    obtain ⟨i, rfl⟩ := mem_prs.mp hr
    exact ⟨.inl rfl, .inr ⟨rfl, rfl⟩⟩
  obtain ⟨ja, sa, xa⟩ := a
  obtain ⟨jb, sb, xb⟩ := b
  rcases ha with ha | ⟨ha, ha2⟩ <;> rcases hb with hb | ⟨hb, hb2⟩ <;> simp only at ha hb
  · subst ha; subst hb
    exact Iff.rfl
  · subst ha; subst hb
    exact ⟨fun z => by have : (0 : Nat) = 1 := (Prod.mk.inj z).1; omega, fun z => by have : (0 : Nat) = 1 := (Prod.mk.inj z).1; omega⟩
  · subst ha; subst hb
    exact ⟨fun z => by have : (1 : Nat) = 0 := (Prod.mk.inj z).1; omega, fun z => by have : (1 : Nat) = 0 := (Prod.mk.inj z).1; omega⟩
  · simp only at ha2 hb2
    subst ha; subst hb; subst ha2; subst hb2
    have e : ∀ H : Fg c, lab (two A H) (1, false, xa) = lab (two A H) (1, false, xb) ↔ H (false, xa) = H (false, xb) := fun H => by
      show ((1, H (false, xa)) : Nat × Nat) = (1, H (false, xb)) ↔ _
      exact ⟨fun z => (Prod.mk.inj z).2, fun z => by rw [z]⟩
    rw [e F, e G]
    exact h xa xb
/-- a path from A to the top of F goes through a bottom point of F that is joined with it -/
theorem far_iff {A F : Fg c} (x : Fin c) : (∃ y, T2 A F (0, false, x) = T2 A F (1, true, y)) ↔ ∃ j, T2 A F (0, false, x) = T2 A F (1, false, j) ∧ ∃ y, F (false, j) = F (true, y) := by
  constructor
  · rintro ⟨y, h⟩
    refine Classical.byContradiction fun no => ?_
    -- the points that x reaches, but for those with the label of y alone
    have e := EG.of_glue h
    -- if no bottom point has y's label, y's class is alone
    by_cases z : ∃ j, F (false, j) = F (true, y)
    · obtain ⟨j, hj⟩ := z
      exact no ⟨j, h.trans (glue_ker (by
        show ((1, F (true, y)) : Nat × Nat) = (1, F (false, j))
        rw [hj])), y, hj⟩
    · have r := EG.to (g := fun p : Pt c => decide (lab (two A F) p = (1, F (true, y)))) (fun a b ab => by rw [ab]) (fun a b ab => by
        obtain ⟨i, hi⟩ := mem_prs.mp ab
        cases hi
        have n1 : ¬ lab (two A F) (0, true, i) = (1, F (true, y)) := fun q => by
          have : (0 : Nat) = 1 := (Prod.mk.inj q).1
          omega
        have n2 : ¬ lab (two A F) (1, false, i) = (1, F (true, y)) := fun q => z ⟨i, (Prod.mk.inj q).2⟩
        show decide (lab (two A F) (0, true, i) = _) = decide (lab (two A F) (1, false, i) = _)
        rw [decide_eq_false n1, decide_eq_false n2]) e
      have t1 : decide (lab (two A F) (0, false, x) = (1, F (true, y))) = false := decide_eq_false fun q => by
        have : (0 : Nat) = 1 := (Prod.mk.inj q).1
        omega
      have t2 : decide (lab (two A F) (1, true, y) = (1, F (true, y))) = true := decide_eq_true rfl
      have r : decide (lab (two A F) (0, false, x) = (1, F (true, y))) = decide (lab (two A F) (1, true, y) = (1, F (true, y))) := r
      rw [t1, t2] at r
      cases r
  · rintro ⟨j, h, y, hy⟩
    exact ⟨y, h.trans (glue_ker (by
      show ((1, F (false, j)) : Nat × Nat) = (1, F (true, y))
      rw [hy]))⟩
theorem td_up {A F G : Fg c} (h : td F = td G) {F' G' : Fg c} (hF : KF F' (UP A F)) (hG : KF G' (UP A G)) : td F' = td G' := by
  have k := near_ke (A := A) (td_inl h)
  refine td_of (fun x y => ?_) fun x => ?_
  · rw [hF (false, x) (false, y), hG (false, x) (false, y)]
    exact k (0, false, x) (0, false, y) (.inl rfl) (.inl rfl)
  · have a : (∃ y, F' (false, x) = F' (true, y)) ↔ ∃ y, T2 A F (0, false, x) = T2 A F (1, true, y) := exists_congr fun y => hF _ _
    have b : (∃ y, G' (false, x) = G' (true, y)) ↔ ∃ y, T2 A G (0, false, x) = T2 A G (1, true, y) := exists_congr fun y => hG _ _
    rw [a, b, far_iff, far_iff]
    exact exists_congr fun j => and_congr (k (0, false, x) (1, false, j) (.inl rfl) (.inr ⟨rfl, rfl⟩)) (td_inr h j)
/-- a run of figures, each with A put on, below or above -/
structure Run (A : Fg c) (G : Nat → Fg c) : Prop where
  on : ∀ n, KF (G (n + 1)) (UP (G n) A)
  und : ∀ n, KF (G (n + 1)) (UP A (G n))
theorem Run.still {A : Fg c} {G : Nat → Fg c} (R : Run A G) {n : Nat} (hn : c * c + c ≤ n) : td (G n) = td (G (c * c + c)) := by
  have q := settle (fun n => td (G n)) (ixs c) (fun n i h => up_le (R.on n) i h) (fun n m h => by
    have e : td (G n) = td (G m) := funext fun i => h i (ixs_all i)
    intro i _
    exact congrFun (td_up e (R.und n) (R.und m)) i)
  rw [ixs_len] at q
  exact funext fun i => q n hn i (ixs_all i)
end
end FM
end
section
set_option linter.all false
set_option maxRecDepth 100000
/-! The exchanges of a figure that stands still come round within six turns. -/
namespace FM
def itr {α : Type} (f : α → α) : Nat → α → α
  | 0, x => x
  | k + 1, x => f (itr f k x)
/-! ### at most five things exchanged -/
def lists (n : Nat) : Nat → List (List Nat)
  | 0 => [[]]
  | k + 1 => (lists n k).flatMap fun l => (List.range n).map fun x => x :: l
theorem lists_mem {n : Nat} : ∀ {l : List Nat}, (∀ x ∈ l, x < n) → l ∈ lists n l.length
  | [], _ => List.mem_singleton.mpr rfl
  | x :: l, h => List.mem_flatMap.mpr ⟨l, lists_mem fun y hy => h y (List.mem_cons_of_mem _ hy), List.mem_map.mpr ⟨x, List.mem_range.mpr (h x List.mem_cons_self), rfl⟩⟩
def noTwo : List Nat → Bool
  | [] => true
  | x :: l => !l.contains x && noTwo l
def its (l : List Nat) : Nat → Nat → Nat
  | 0, y => y
  | k + 1, y => l.getD (its l k y) 0
theorem five_round : ((lists 5 5).all fun l => !noTwo l || (List.range 6).any fun k => (List.range 5).all fun y => its l (k + 1) y == y) = true := by decide +kernel
theorem noTwo_of : ∀ {l : List Nat}, l.Nodup → noTwo l = true
  | [], _ => rfl
  | x :: l, h => by
    have h := List.nodup_cons.mp h
    show (!l.contains x && noTwo l) = true
    rw [noTwo_of h.2, Bool.and_true]
    have : l.contains x = false := by
      cases q : l.contains x
      · rfl
      · exact absurd (List.contains_iff_mem.mp q) h.1
    rw [this]
    rfl
theorem nodup_on {f : Nat → Nat} : ∀ {l : List Nat}, l.Nodup → (∀ x ∈ l, ∀ y ∈ l, f x = f y → x = y) → (l.map f).Nodup
  | [], _, _ => List.nodup_nil
  | x :: l, h, k => by
    have h := List.nodup_cons.mp h
    rw [List.map_cons]
    refine List.nodup_cons.mpr ⟨fun m => ?_, nodup_on h.2 fun a ha b hb => k a (List.mem_cons_of_mem _ ha) b (List.mem_cons_of_mem _ hb)⟩
    obtain ⟨y, hy, e⟩ := List.mem_map.mp m
    have := k y (List.mem_cons_of_mem _ hy) x List.mem_cons_self e
    subst this
    exact h.1 hy
theorem six {t : Nat → Nat} (lt : ∀ y, y < 5 → t y < 5) (inj : ∀ x y, x < 5 → y < 5 → t x = t y → x = y) : ∃ k, k < 6 ∧ ∀ y, y < 5 → itr t (k + 1) y = y := by
  have nd : ((List.range 5).map t).Nodup := nodup_on List.nodup_range fun x hx y hy => inj x y (List.mem_range.mp hx) (List.mem_range.mp hy)
  have mem : (List.range 5).map t ∈ lists 5 5 := lists_mem (l := (List.range 5).map t) fun x hx => by
    obtain ⟨y, hy, rfl⟩ := List.mem_map.mp hx
    exact lt y (List.mem_range.mp hy)
  have q := List.all_eq_true.mp five_round _ mem
  rw [noTwo_of nd, Bool.not_true, Bool.false_or] at q
  obtain ⟨k, hk, h⟩ := List.any_eq_true.mp q
  have e : ∀ k y, y < 5 → its ((List.range 5).map t) k y = itr t k y ∧ itr t k y < 5 := by
    intro k
    induction k with
    | zero => intro y hy; exact ⟨rfl, hy⟩
    | succ k ih =>
      intro y hy
      obtain ⟨e, l⟩ := ih y hy
      refine ⟨?_, lt _ l⟩
      show ((List.range 5).map t).getD (its ((List.range 5).map t) k y) 0 = t (itr t k y)
      rw [e, List.getD_eq_getElem?_getD, List.getElem?_map, List.getElem?_range l]
      rfl
  refine ⟨k, List.mem_range.mp hk, fun y hy => ?_⟩
  rw [← (e (k + 1) y hy).1]
  exact eq_of_beq (List.all_eq_true.mp h y (List.mem_range.mpr hy))
section
variable {c : Nat}
theorem six_on (hc : c ≤ 5) {t : Fin c → Fin c} {I : Fin c → Prop} (cl : ∀ y, I y → I (t y)) (inj : ∀ x y, I x → I y → t x = t y → x = y) : ∃ k, k < 6 ∧ ∀ y, I y → itr t (k + 1) y = y := by
  classical
  let t' : Nat → Nat := fun y => if h : y < c then (if I ⟨y, h⟩ then (t ⟨y, h⟩).val else y) else y
  have on : ∀ y : Fin c, I y → t' y.val = (t y).val := fun y hy => by
    show (if h : y.val < c then (if I ⟨y.val, h⟩ then (t ⟨y.val, h⟩).val else y.val) else y.val) = _
    rw [dif_pos y.isLt, if_pos hy]
  have off : ∀ y : Nat, (¬ ∃ h : y < c, I ⟨y, h⟩) → t' y = y := fun y hy => by
    show (if h : y < c then (if I ⟨y, h⟩ then (t ⟨y, h⟩).val else y) else y) = _
    by_cases h : y < c
    · rw [dif_pos h, if_neg fun z => hy ⟨h, z⟩]
    · rw [dif_neg h]
  obtain ⟨k, hk, h⟩ := six (t := t') (fun y hy => by
    by_cases z : ∃ h : y < c, I ⟨y, h⟩
    · obtain ⟨h, i⟩ := z
      have := on ⟨y, h⟩ i
      have l := (t ⟨y, h⟩).isLt
      show t' (⟨y, h⟩ : Fin c).val < 5
      omega
    · rw [off y z]
      exact hy) (fun x y hx hy e => by
    by_cases zx : ∃ h : x < c, I ⟨x, h⟩ <;> by_cases zy : ∃ h : y < c, I ⟨y, h⟩
    · obtain ⟨hx, ix⟩ := zx
      obtain ⟨hy, iy⟩ := zy
      have e1 := on ⟨x, hx⟩ ix
      have e2 := on ⟨y, hy⟩ iy
      have := inj ⟨x, hx⟩ ⟨y, hy⟩ ix iy (Fin.ext (by rw [← e1, ← e2]; exact e))
      exact congrArg Fin.val this
    · obtain ⟨hx, ix⟩ := zx
      have e1 := on ⟨x, hx⟩ ix
      rw [off y zy] at e
      have ey : y = (t ⟨x, hx⟩).val := e.symm.trans e1
      subst ey
      exact absurd ⟨(t ⟨x, hx⟩).isLt, cl _ ix⟩ zy
    · obtain ⟨hy, iy⟩ := zy
      have e1 := on ⟨y, hy⟩ iy
      rw [off x zx] at e
      have ex : x = (t ⟨y, hy⟩).val := e.trans e1
      subst ex
      exact absurd ⟨(t ⟨y, hy⟩).isLt, cl _ iy⟩ zx
    · rw [off x zx, off y zy] at e
      exact e)
  refine ⟨k, hk, fun y hy => ?_⟩
  have go : ∀ k, itr t' k y.val = (itr t k y).val ∧ I (itr t k y) := by
    intro k
    induction k with
    | zero => exact ⟨rfl, hy⟩
    | succ k ih =>
      obtain ⟨e, i⟩ := ih
      refine ⟨?_, cl _ i⟩
      show t' (itr t' k y.val) = _
      rw [e]
      exact on _ i
  exact Fin.ext ((go (k + 1)).1.symm.trans (h y.val (by have := y.isLt; omega)))
/-! ### figures seen from the other side -/
def fl (x : P1 c) : P1 c := (!x.1, x.2)
def flp (F : Fg c) : Fg c := fun x => F (fl x)
def rev (p : Pt c) : Pt c := (if p.1 = 0 then 1 else 0, !p.2.1, p.2.2)
theorem rev_eg {F A : Fg c} {x y : Pt c} (h : EG (lab (two F A)) (prs c 0 1) x y) : EG (lab (two (flp A) (flp F))) (prs c 0 1) (rev x) (rev y) := by
  refine EG.map rev (fun a b ab => .ker ?_) (fun a b ab => ?_) h
  · obtain ⟨ja, sa, xa⟩ := a
    obtain ⟨jb, sb, xb⟩ := b
    have j : ja = jb := (Prod.mk.inj ab).1
    subst j
    have l : two F A ja (sa, xa) = two F A ja (sb, xb) := (Prod.mk.inj ab).2
    by_cases z : ja = 0
    · subst z
      show ((1, F (!!sa, xa)) : Nat × Nat) = (1, F (!!sb, xb))
      rw [Bool.not_not, Bool.not_not]
      exact congrArg (Prod.mk 1) l
    · have l : A (sa, xa) = A (sb, xb) := by
        unfold two at l
        rw [if_neg z] at l
        exact l
      unfold rev lab
      dsimp only
      rw [if_neg z]
      show ((0, A (!!sa, xa)) : Nat × Nat) = (0, A (!!sb, xb))
      rw [Bool.not_not, Bool.not_not, l]
  · obtain ⟨i, hi⟩ := mem_prs.mp ab
    cases hi
    exact .sym (.pr (mem_prs.mpr ⟨i, rfl⟩))
theorem flp_flp (F : Fg c) : flp (flp F) = F := by
  funext x
  obtain ⟨s, i⟩ := x
  show F (!!s, i) = F (s, i)
  rw [Bool.not_not]
theorem rev_iff {F A : Fg c} {x y : Pt c} (hx : rev (rev x) = x) (hy : rev (rev y) = y) : T2 F A x = T2 F A y ↔ T2 (flp A) (flp F) (rev x) = T2 (flp A) (flp F) (rev y) := by
  refine ⟨fun h => (rev_eg (EG.of_glue h)).glue, fun h => ?_⟩
  have q := rev_eg (EG.of_glue h)
  rw [flp_flp, flp_flp, hx, hy] at q
  exact q.glue
theorem up_fl {F A H : Fg c} (h : KF H (UP F A)) : KF (flp H) (UP (flp A) (flp F)) := fun x y => by
  have r : ∀ x : P1 c, rev (rev (out (fl x))) = out (fl x) := fun x => by
    obtain ⟨s, i⟩ := x
    cases s <;> rfl
  have o : ∀ x : P1 c, rev (out (fl x)) = out x := fun x => by
    obtain ⟨s, i⟩ := x
    cases s <;> rfl
  have a : flp H x = flp H y ↔ T2 F A (out (fl x)) = T2 F A (out (fl y)) := h (fl x) (fl y)
  rw [a, rev_iff (r x) (r y), o, o]
  exact Iff.rfl
theorem Run.flp {A : Fg c} {G : Nat → Fg c} (R : Run A G) : Run (FM.flp A) fun n => FM.flp (G n) := ⟨fun n => up_fl (R.und n), fun n => up_fl (R.on n)⟩
/-- the points of A and the top points of F -/
theorem far_ke {A F G : Fg c} (h : ∀ x y, F (true, x) = F (true, y) ↔ G (true, x) = G (true, y)) (y z : Fin c) : T2 F A (0, true, y) = T2 F A (1, true, z) ↔ T2 G A (0, true, y) = T2 G A (1, true, z) := by
  have k := near_ke (A := flp A) (F := flp F) (G := flp G) h (1, false, y) (0, false, z) (.inr ⟨rfl, rfl⟩) (.inl rfl)
  rw [rev_iff (F := F) (A := A) (x := (0, true, y)) (y := (1, true, z)) rfl rfl, rev_iff (F := G) (A := A) (x := (0, true, y)) (y := (1, true, z)) rfl rfl]
  exact k
/-! ### one thing of some -/
open Classical in
noncomputable def fnd (p : Fin c → Prop) (d : Fin c) : Fin c := if h : ∃ y, p y then Classical.choose h else d
theorem fnd_ok {p : Fin c → Prop} {d : Fin c} (h : ∃ y, p y) : p (fnd p d) := by
  unfold fnd
  rw [dif_pos h]
  exact Classical.choose_spec h
theorem fnd_congr {p q : Fin c → Prop} {d d' : Fin c} (e : ∀ y, p y ↔ q y) (h : ∃ y, p y) : fnd p d = fnd q d' := by
  have pq : p = q := funext fun y => propext (e y)
  subst pq
  unfold fnd
  rw [dif_pos h, dif_pos h]
theorem Run.back (hc : c ≤ 5) {A : Fg c} {G : Nat → Fg c} (R : Run A G) : ∃ k, k < 6 ∧ KF (G (c * c + c + (k + 1))) (G (c * c + c)) := by
  generalize hN : c * c + c = N
  have st : ∀ n, N ≤ n → td (G n) = td (G N) := fun n hn => by
    subst hN
    exact R.still hn
  have st2 : ∀ n, N ≤ n → td (FM.flp (G n)) = td (FM.flp (G N)) := fun n hn => by
    subst hN
    exact R.flp.still hn
  have tF : ∀ n, N ≤ n → ∀ x y, G n (false, x) = G n (false, y) ↔ G N (false, x) = G N (false, y) := fun n hn => td_inl (st n hn)
  have thF : ∀ n, N ≤ n → ∀ x, (∃ y, G n (false, x) = G n (true, y)) ↔ ∃ y, G N (false, x) = G N (true, y) := fun n hn => td_inr (st n hn)
  have tT : ∀ n, N ≤ n → ∀ x y, G n (true, x) = G n (true, y) ↔ G N (true, x) = G N (true, y) := fun n hn => td_inl (st2 n hn)
  have thT : ∀ n, N ≤ n → ∀ x, (∃ y, G n (true, x) = G n (false, y)) ↔ ∃ y, G N (true, x) = G N (false, y) := fun n hn => td_inr (st2 n hn)
  let f : Nat → Fin c → Fin c := fun n x => fnd (fun y => G n (false, x) = G n (true, y)) x
  let t : Fin c → Fin c := fun y => fnd (fun z => T2 (G N) A (0, true, y) = T2 (G N) A (1, true, z)) y
  let Th : Fin c → Prop := fun x => ∃ y, G N (false, x) = G N (true, y)
  have fok : ∀ n, N ≤ n → ∀ x, Th x → G n (false, x) = G n (true, f n x) := fun n hn x hx => fnd_ok (p := fun y => G n (false, x) = G n (true, y)) ((thF n hn x).mpr hx)
  have k1 : ∀ n, N ≤ n → ∀ x, Th x → f (n + 1) x = t (f n x) := fun n hn x hx => by
    refine fnd_congr (fun z => ?_) ((thF (n + 1) (by omega) x).mpr hx)
    have a : G (n + 1) (false, x) = G (n + 1) (true, z) ↔ T2 (G n) A (0, false, x) = T2 (G n) A (1, true, z) := R.on n (false, x) (true, z)
    have b : T2 (G n) A (0, false, x) = T2 (G n) A (0, true, f n x) := glue_ker (by
      show ((0, G n (false, x)) : Nat × Nat) = (0, G n (true, f n x))
      rw [← fok n hn x hx])
    rw [a, b]
    exact far_ke (tT n hn) _ _
  have k2 : ∀ x, Th x → ∃ x', Th x' ∧ f N x' = f (N + 1) x := fun x hx => by
    have s := fok (N + 1) (by omega) x hx
    obtain ⟨x', hx'⟩ := (thT (N + 1) (by omega) (f (N + 1) x)).mp ⟨x, s.symm⟩
    refine ⟨x', ⟨_, hx'.symm⟩, ?_⟩
    refine fnd_congr (fun z => ?_) ⟨_, hx'.symm⟩
    rw [← hx', s]
    exact (tT (N + 1) (by omega) _ _).symm
  obtain ⟨k, hk, h⟩ := six_on hc (t := t) (I := fun y => ∃ x, Th x ∧ f N x = y) (fun y ⟨x, hx, e⟩ => by
    obtain ⟨x', hx', e'⟩ := k2 x hx
    refine ⟨x', hx', ?_⟩
    rw [e', k1 N (Nat.le_refl _) x hx, e]) (fun y z ⟨x, hx, e⟩ ⟨x', hx', e'⟩ q => by
    have a := k1 N (Nat.le_refl _) x hx
    have b := k1 N (Nat.le_refl _) x' hx'
    rw [e] at a
    rw [e'] at b
    have ff : f (N + 1) x = f (N + 1) x' := by rw [a, b, q]
    have s := fok (N + 1) (by omega) x hx
    have s' := fok (N + 1) (by omega) x' hx'
    rw [ff, ← s'] at s
    have s2 := (tF (N + 1) (by omega) x x').mp s
    rw [← e, ← e']
    refine fnd_congr (fun w => ?_) hx
    rw [s2])
  have go : ∀ k x, Th x → f (N + k) x = itr t k (f N x) := by
    intro k
    induction k with
    | zero => intro x _; rfl
    | succ k ih =>
      intro x hx
      rw [← Nat.add_assoc, k1 (N + k) (by omega) x hx, ih x hx]
      rfl
  have ft : ∀ x y, G (N + (k + 1)) (false, x) = G (N + (k + 1)) (true, y) ↔ G N (false, x) = G N (true, y) := fun x y => by
    have e : Th x → f (N + (k + 1)) x = f N x := fun hx => by
      rw [go (k + 1) x hx]
      exact h _ ⟨x, hx, rfl⟩
    constructor
    · intro q
      have hx : Th x := (thF _ (by omega) x).mp ⟨y, q⟩
      have s := fok (N + (k + 1)) (by omega) x hx
      rw [s, e hx] at q
      have q := (tT _ (by omega) _ _).mp q
      rw [fok N (Nat.le_refl _) x hx, q]
    · intro q
      have hx : Th x := ⟨y, q⟩
      have s := fok N (Nat.le_refl _) x hx
      rw [s] at q
      have q := (tT (N + (k + 1)) (by omega) _ _).mpr q
      rw [fok (N + (k + 1)) (by omega) x hx, e hx, q]
  refine ⟨k, hk, fun x y => ?_⟩
  obtain ⟨sx, ix⟩ := x
  obtain ⟨sy, iy⟩ := y
  cases sx <;> cases sy
  · exact tF _ (by omega) _ _
  · exact ft ix iy
  · rw [eq_comm, ft iy ix, eq_comm]
  · exact tT _ (by omega) _ _
end
end FM
end
section
set_option linter.all false
/-! Powers as lists: they come round. Plain mathematics. -/
namespace FM
section
variable {c : Nat} {A : List Nat}
def pw (c : Nat) (A : List Nat) : Nat → List Nat
  | 0 => stL c
  | n + 1 => uponL c (pw c A n) A
def lw (c : Nat) (A : List Nat) : Nat → Nat
  | 0 => 0
  | n + 1 => lw c A n + leftL c (pw c A n) A
theorem pw_val (n : Nat) : Val c (pw c A n) := by
  cases n with
  | zero => exact st_val c
  | succ n => exact upon_val c _ _
theorem pw_comm (hA : Val c A) : ∀ n, uponL c (pw c A n) A = uponL c A (pw c A n)
  | 0 => (stL_upon hA).1.trans (upon_stL hA).1.symm
  | n + 1 => by
    show uponL c (uponL c (pw c A n) A) A = uponL c A (uponL c (pw c A n) A)
    rw [← (uponL_assoc A (pw c A n) A).1, pw_comm hA n]
theorem pw_add (a : Nat) : ∀ b, pw c A (a + b) = uponL c (pw c A a) (pw c A b)
  | 0 => ((upon_stL (pw_val a)).1).symm
  | b + 1 => by
    show uponL c (pw c A (a + b)) A = uponL c (pw c A a) (uponL c (pw c A b) A)
    rw [pw_add a b, (uponL_assoc (pw c A a) (pw c A b) A).1]
theorem pw_run (hA : Val c A) : Run (fg c A) fun n => fg c (pw c A n) := ⟨fun n => upon_kf _ _, fun n => by
  show KF (fg c (uponL c (pw c A n) A)) _
  rw [pw_comm hA n]
  exact upon_kf _ _⟩
theorem pw_back (hc : c ≤ 5) (hA : Val c A) : ∃ k, k < 6 ∧ pw c A (c * c + c + (k + 1)) = pw c A (c * c + c) := by
  obtain ⟨k, hk, h⟩ := (pw_run hA).back hc
  exact ⟨k, hk, val_eq (pw_val _) (pw_val _) h⟩
/-- the first power that was there before: its number -/
structure Turn (c : Nat) (A : List Nat) (f T : Nat) : Prop where
  lt : f < T
  le : T ≤ 36
  eq : pw c A T = pw c A f
  un : ∀ i j, i < T → j < T → pw c A i = pw c A j → i = j
theorem least {P : Nat → Prop} : ∀ {n : Nat}, P n → ∃ m, m ≤ n ∧ P m ∧ ∀ k, k < m → ¬ P k := by
  intro n
  induction n using Nat.strongRecOn with
  | _ n ih =>
    intro h
    by_cases z : ∃ k, k < n ∧ P k
    · obtain ⟨k, hk, pk⟩ := z
      obtain ⟨m, h1, h2, h3⟩ := ih k hk pk
      exact ⟨m, by omega, h2, h3⟩
    · exact ⟨n, Nat.le_refl _, h, fun k hk pk => z ⟨k, hk, pk⟩⟩
theorem turn (hc : c ≤ 5) (hA : Val c A) : ∃ f T, Turn c A f T := by
  obtain ⟨k, hk, e⟩ := pw_back hc hA
  have hN : c * c + c ≤ 30 := by
    have := Nat.mul_le_mul hc hc
    omega
  obtain ⟨T, h1, ⟨f, hf, he⟩, h3⟩ := least (P := fun n => ∃ i, i < n ∧ pw c A n = pw c A i) (n := c * c + c + (k + 1)) ⟨c * c + c, by omega, e⟩
  refine ⟨f, T, hf, by omega, he, fun i j hi hj q => ?_⟩
  rcases Nat.lt_trichotomy i j with z | z | z
  · exact absurd ⟨i, z, q.symm⟩ (h3 j hj)
  · exact z
  · exact absurd ⟨j, z, q⟩ (h3 i hi)
section
variable {f T : Nat}
theorem Turn.far (t : Turn c A f T) : ∀ n, pw c A (T + n) = pw c A (f + n)
  | 0 => t.eq
  | n + 1 => by
    show uponL c (pw c A (T + n)) A = uponL c (pw c A (f + n)) A
    rw [Turn.far t n]
theorem Turn.per (t : Turn c A f T) (r : Nat) : ∀ q, pw c A (f + r + (T - f) * q) = pw c A (f + r)
  | 0 => rfl
  | q + 1 => by
    have lt := t.lt
    rw [Nat.mul_succ, show f + r + ((T - f) * q + (T - f)) = T + (r + (T - f) * q) by omega, t.far, ← Nat.add_assoc, Turn.per t r q]
theorem Turn.at (t : Turn c A f T) {n : Nat} (h : f ≤ n) : pw c A n = pw c A (f + (n - f) % (T - f)) := by
  have e := t.per ((n - f) % (T - f)) ((n - f) / (T - f))
  rw [Nat.add_assoc, Nat.mod_add_div, show f + (n - f) = n by omega] at e
  exact e
theorem Turn.new (t : Turn c A f T) {n : Nat} (h : n + 1 < T) : pw c A (n + 1) ∉ (List.range (n + 1)).map (pw c A) := fun m => by
  obtain ⟨i, hi, e⟩ := List.mem_map.mp m
  have hi := List.mem_range.mp hi
  have := t.un i (n + 1) (by omega) h e
  omega
theorem Turn.old (t : Turn c A f T) : pw c A T ∈ (List.range T).map (pw c A) := List.mem_map.mpr ⟨f, List.mem_range.mpr t.lt, t.eq.symm⟩
theorem idx_map {g : Nat → List Nat} {T f : Nat} (hf : f < T) (un : ∀ i j, i < T → j < T → g i = g j → i = j) : ((List.range T).map g).idxOf (g f) = f := by
  have hl : f < ((List.range T).map g).length := by rw [List.length_map, List.length_range]; exact hf
  have e : ((List.range T).map g)[f] = g f := by simp
  have hi : ((List.range T).map g).idxOf (g f) < ((List.range T).map g).length := List.idxOf_lt_length_of_mem (List.mem_map.mpr ⟨f, List.mem_range.mpr hf, rfl⟩)
  have q := List.getElem_idxOf hi
  have q2 : g (((List.range T).map g).idxOf (g f)) = g f := by
    have : ((List.range T).map g)[((List.range T).map g).idxOf (g f)] = g (((List.range T).map g).idxOf (g f)) := by
      rw [List.getElem_map, List.getElem_range]
    exact this.symm.trans q
  rw [List.length_map, List.length_range] at hi
  exact un _ _ hi hf q2
theorem Turn.idx (t : Turn c A f T) : ((List.range T).map (pw c A)).idxOf (pw c A T) = f := by
  rw [t.eq]
  exact idx_map t.lt t.un
end
end
end FM
end
section
set_option linter.all false
set_option maxRecDepth 100000
namespace FL
open PySem PySem.Spec PyProof.Rows L2 DL FM
/-! ### lists of figures -/
def ffL (ls : List (List Nat)) : D := .list (ls.map fun l => fD l)
theorem eqv_all : ∀ (a b : List Nat), PyData.eqvAll (nL a) (nL b) = decide (a = b)
  | [], [] => rfl
  | x :: a, y :: b => by
    show (PyData.eqv (nI x) (nI y) && PyData.eqvAll (nL a) (nL b)) = _
    rw [eqv_all a b]
    unfold nI
    rw [eqv_int]
    by_cases h : x = y
    · subst h
      by_cases z : a = b <;> simp [z]
    · have : ¬ ((x : Int) = (y : Int)) := by omega
      simp [h, this]
  | [], _ :: _ => rfl
  | _ :: _, [] => rfl
theorem eqv_f (a b : List Nat) : PyData.eqv (fD a) (fD b) = decide (a = b) := by
  show PyData.eqvAll (nL a) (nL b) = _
  exact eqv_all a b
theorem can_n : ∀ a : List Nat, PyData.canLayAll0 (nL a) = true
  | [] => rfl
  | x :: a => by
    show ((nI x).canLay0 && PyData.canLayAll0 (nL a)) = true
    rw [can_n a]
    rfl
theorem can_f (a : List Nat) : (fD a).canLay0 = true := can_n a
theorem dep_n : ∀ a : List Nat, PyData.depthAll (nL a) = 0
  | [] => rfl
  | x :: a => by
    show max (nI x).depth (PyData.depthAll (nL a)) = 0
    rw [dep_n a]
    rfl
theorem inOk_f (x : List Nat) (ls : List (List Nat)) : inOk (fD x) (ls.map fun l => fD l) = true := by
  unfold inOk
  rw [can_f]
  have : (fD x).depth ≤ 60 := by
    show PyData.depthAll (nL x) + 1 ≤ 60
    rw [dep_n]
    decide
  rw [decide_eq_true this]
  have : (ls.map fun l => fD l).all PyData.canLay0 = true := by
    rw [List.all_map]
    exact List.all_eq_true.mpr fun l _ => can_f l
  rw [this]
  rfl
theorem mem_f (x : List Nat) : ∀ ls : List (List Nat), memD (fD x) (ls.map fun l => fD l) = decide (x ∈ ls)
  | [] => rfl
  | y :: ls => by
    have ih := mem_f x ls
    unfold memD at ih ⊢
    rw [List.map_cons, List.any_cons, ih, eqv_f]
    by_cases h : y = x
    · subst h; simp
    · have h2 : ¬ (x = y) := fun e => h e.symm
      simp [h, h2]
theorem dInA_f {neg : Bool} {x : List Nat} {ls : List (List Nat)} : dInA neg (fD x) (ffL ls) = some (.bool (if neg = true then !decide (x ∈ ls) else decide (x ∈ ls))) := by
  unfold ffL dInA
  dsimp only
  rw [inOk_f, Bool.or_true, if_pos rfl, mem_f]
theorem find_f (x : List Nat) : ∀ ls : List (List Nat), (ls.map fun l => fD l).findIdx (fun z => PyData.eqv z (fD x)) = ls.idxOf x
  | [] => rfl
  | y :: ls => by
    have ih := find_f x ls
    rw [List.map_cons, List.findIdx_cons, List.idxOf_cons, ih, eqv_f]
    by_cases h : y = x
    · subst h; simp
    · have h2 : (y == x) = false := by simpa using h
      simp [h, h2]
theorem dIdxA_f {x : List Nat} {ls : List (List Nat)} (h : x ∈ ls) : dIdxA (ls.map fun l => fD l) (fD x) = some (nI (ls.idxOf x)) := by
  unfold dIdxA
  rw [if_pos ⟨inOk_f x ls, by rw [mem_f]; exact decide_eq_true h⟩, find_f]
  rfl
theorem at_f {ls : List (List Nat)} {i : Nat} {x : List Nat} (h : ls[i]? = some x) : dIx (ffL ls) (nI i) = some (fD x) := by
  unfold ffL nI
  rw [dIx_l, List.getElem?_map, h]
  rfl
theorem last_f {ls : List (List Nat)} {x : List Nat} : dIx (ffL (ls ++ [x])) (.int (-1)) = some (fD x) := by
  unfold ffL
  rw [List.map_append]
  exact last_ix
theorem last_n {xs : List Nat} {x : Nat} : dIx (lD (xs ++ [x])) (.int (-1)) = some (nI x) := by
  unfold lD nL
  rw [List.map_append]
  exact last_ix
theorem cut_last (L : List D) (x : D) : DL.cutD (L ++ [x]) none (some (-1)) = L := by
  unfold DL.cutD
  have e : HT.sIx (L ++ [x]).length (L ++ [x]).length (some (-1)) = L.length := by
    unfold HT.sIx
    dsimp only
    rw [if_pos (by omega), List.length_append, List.length_cons, List.length_nil]
    omega
  rw [e, HT.sIx_none, List.drop_zero, Nat.sub_zero, List.take_left]
theorem init_f {ls : List (List Nat)} {x : List Nat} : dSlA none (some (-1)) (ffL (ls ++ [x])) = some (ffL ls) := by
  unfold ffL
  rw [List.map_append]
  show some (PyData.list (DL.cutD _ none (some (-1)))) = _
  rw [List.map_cons, List.map_nil, cut_last]
/-! ### loops that end early -/
theorem for_stop {tgt : FG} {body : FS} {St : Nat → Ev → Prop} {T : Nat} {d : D} {n : Nat} (hT : T < n) (go : ∀ i env, i < T → St i env → ∃ e1 e2, tgt (nI i) env = some e1 ∧ body e1 = .ret (.nx e2) ∧ St (i + 1) e2) (end_ : ∀ env, St T env → ∃ e1, tgt (nI T) env = some e1 ∧ body e1 = .ret (.rv d)) {env : Ev} (h : St 0 env) : forD tgt body ((List.range n).map nI) env = .ret (.rv d) := by
  have g : ∀ k i env, i + k = T → St i env → forD tgt body ((List.range' i (n - i)).map nI) env = .ret (.rv d) := by
    intro k
    induction k with
    | zero =>
      intro i env e h
      have e : i = T := by omega
      subst e
      obtain ⟨e1, h1, h2⟩ := end_ env h
      rw [show n - i = (n - i - 1) + 1 by omega, List.range'_succ, List.map_cons, forD, h1]
      dsimp only
      rw [h2]
      rfl
    | succ k ih =>
      intro i env e h
      obtain ⟨e1, e2, h1, h2, h3⟩ := go i env (by omega) h
      rw [show n - i = (n - (i + 1)) + 1 by omega, List.range'_succ, List.map_cons, forD, h1]
      dsimp only
      rw [h2]
      exact ih (i + 1) e2 (by omega) h3
  rw [List.range_eq_range']
  exact g T 0 env (by omega) h
theorem while_stop {c : FT} {body : FS} {St : Nat → Ev → Prop} {T : Nat} (go : ∀ i env, i < T → St i env → c env = .ret true ∧ ∃ e2, body env = .ret (.nx e2) ∧ St (i + 1) e2) (end_ : ∀ env, St T env → c env = .ret false) {fuel : Nat} (hf : T < fuel) {env : Ev} (h : St 0 env) : ∃ e, whileD c body fuel env = .ret (.nx e) ∧ St T e := by
  have g : ∀ k i fuel env, i + k = T → k < fuel → St i env → ∃ e, whileD c body fuel env = .ret (.nx e) ∧ St T e := by
    intro k
    induction k with
    | zero =>
      intro i fuel env e hf h
      have e : i = T := by omega
      subst e
      cases fuel with
      | zero => omega
      | succ fuel =>
        refine ⟨env, ?_, h⟩
        rw [whileD, end_ env h]
        rfl
    | succ k ih =>
      intro i fuel env e hf h
      cases fuel with
      | zero => omega
      | succ fuel =>
        obtain ⟨h1, e2, h2, h3⟩ := go i env (by omega) h
        obtain ⟨e', h4, h5⟩ := ih (i + 1) fuel e2 (by omega) (by omega) h3
        refine ⟨e', ?_, h5⟩
        rw [whileD, h1]
        show ((body env).bind _) = _
        rw [h2]
        exact h4
  exact g T 0 fuel env (by omega) hf h
def pws (c : Nat) (A : List Nat) (n : Nat) : List (List Nat) := (List.range n).map (pw c A)
def lws (c : Nat) (A : List Nat) (n : Nat) : List Nat := (List.range n).map (lw c A)
theorem pws_succ (c : Nat) (A : List Nat) (n : Nat) : pws c A (n + 1) = pws c A n ++ [pw c A n] := by
  unfold pws
  rw [List.range_succ, List.map_append]
  rfl
theorem lws_succ (c : Nat) (A : List Nat) (n : Nat) : lws c A (n + 1) = lws c A n ++ [lw c A n] := by
  unfold lws
  rw [List.range_succ, List.map_append]
  rfl
theorem pws_len (c : Nat) (A : List Nat) (n : Nat) : (pws c A n).length = n := by unfold pws; rw [List.length_map, List.length_range]
theorem lws_len (c : Nat) (A : List Nat) (n : Nat) : (lws c A n).length = n := by unfold lws; rw [List.length_map, List.length_range]
theorem pws_at {c : Nat} {A : List Nat} {n i : Nat} (h : i < n) : (pws c A n)[i]? = some (pw c A i) := by
  unfold pws
  rw [List.getElem?_map, List.getElem?_range h]
  rfl
end FL
end
section
set_option linter.all false
set_option maxRecDepth 100000
namespace FL
open PySem PySem.Spec PyProof.Rows L2 DL FM
theorem seq_rv {f g : FS} {env : Ev} {d : D} (h : f env = .ret (.rv d)) : sSeq f g env = .ret (.rv d) := by
  unfold sSeq
  rw [h]
  rfl
/-! ### the law's powers -/
abbrev bPows : FS := sSeq (sSet 4 (e2 dIx (eCall m_law_upon (aVal (eVar 0) (aVal (e2 dIx (eVarB 2) (eNeg (eC (.int 1)))) (aVal (eVar 1) aNil)))) (eC (.int 0)))) (sSeq (sIf (tt (e2 (dInA false) (eVar 4) (eVarB 2))) (fun env => (sRet (eTup (lCons (eVar 2) (lCons (eIdxA (eVar 2) (eVar 4)) lNil)))) (frz 2 env)) sNext) (sApp 2 (eVar 4)))
def pE (c : Nat) (A : List Nat) (L : D) (d3 d4 : Option Slot) : Ev := [some (.val (nI c)), some (.val (fD A)), some (.own L), d3, d4]
theorem pows_then {c : Nat} {A : List Nat} (h1 : 1 ≤ c) (h5 : c ≤ 5) (hA : Val c A) (i : Nat) {d3 d4 : Option Slot} : sSet 4 (e2 dIx (eCall m_law_upon (aVal (eVar 0) (aVal (e2 dIx (eVarB 2) (eNeg (eC (.int 1)))) (aVal (eVar 1) aNil)))) (eC (.int 0))) (pE c A (ffL (pws c A (i + 1))) d3 d4) = .ret (.nx (pE c A (ffL (pws c A (i + 1))) d3 (some (.val (fD (pw c A (i + 1))))))) := by
  have a : e2 dIx (eVarB 2) (eNeg (eC (.int 1))) (pE c A (ffL (pws c A (i + 1))) d3 d4) = .ret (fD (pw c A i)) := e2_r (x := ffL (pws c A (i + 1))) rfl neg1 (by
    rw [pws_succ]
    exact last_f)
  have b : eCall m_law_upon (aVal (eVar 0) (aVal (e2 dIx (eVarB 2) (eNeg (eC (.int 1)))) (aVal (eVar 1) aNil))) (pE c A (ffL (pws c A (i + 1))) d3 d4) = .ret (.tuple [fD (pw c A (i + 1)), nI (leftL c (pw c A i) A)]) := call_r (aC (d := nI c) rfl (aC a (a1 (d := fD A) rfl))) (v_lawup h1 h5 (pw_val i) hA)
  exact set_nx (e2_r b (y := .int 0) rfl rfl)
theorem pows_test {c : Nat} {A : List Nat} {i : Nat} {d3 : Option Slot} : tt (e2 (dInA false) (eVar 4) (eVarB 2)) (pE c A (ffL (pws c A (i + 1))) d3 (some (.val (fD (pw c A (i + 1)))))) = .ret (decide (pw c A (i + 1) ∈ pws c A (i + 1))) := by
  have q : e2 (dInA false) (eVar 4) (eVarB 2) (pE c A (ffL (pws c A (i + 1))) d3 (some (.val (fD (pw c A (i + 1)))))) = .ret (.bool (decide (pw c A (i + 1) ∈ pws c A (i + 1)))) := e2_r (x := fD (pw c A (i + 1))) (y := ffL (pws c A (i + 1))) rfl rfl dInA_f
  unfold tt
  rw [q]
  rfl
theorem v_law_powers {c : Nat} {A : List Nat} (h1 : 1 ≤ c) (h5 : c ≤ 5) (hA : Val c A) {f T : Nat} (t : Turn c A f T) : m_law_powers [.val (nI c), .val (fD A)] = .ret (.tuple [ffL (pws c A T), nI f]) := by
  have le := t.le
  have lt := t.lt
  obtain ⟨U, rfl⟩ : ∃ U, T = U + 1 := ⟨T - 1, by omega⟩
  let St : Nat → Ev → Prop := fun i env => ∃ d3 d4, env = pE c A (ffL (pws c A (i + 1))) d3 d4
  have go : ∀ i env, i < U → St i env → ∃ e1 e2, gN 3 (nI i) env = some e1 ∧ bPows e1 = .ret (.nx e2) ∧ St (i + 1) e2 := by
    rintro i env hi ⟨d3, d4, rfl⟩
    refine ⟨pE c A (ffL (pws c A (i + 1))) (some (.val (nI i))) d4, pE c A (ffL (pws c A (i + 2))) (some (.val (nI i))) (some (.val (fD (pw c A (i + 1))))), rfl, ?_, _, _, rfl⟩
    refine (seq_nx (pows_then h1 h5 hA i)).trans ?_
    have n : pw c A (i + 1) ∉ pws c A (i + 1) := t.new (by omega)
    have s2 : sIf (tt (e2 (dInA false) (eVar 4) (eVarB 2))) (fun env => (sRet (eTup (lCons (eVar 2) (lCons (eIdxA (eVar 2) (eVar 4)) lNil)))) (frz 2 env)) sNext (pE c A (ffL (pws c A (i + 1))) (some (.val (nI i))) (some (.val (fD (pw c A (i + 1)))))) = .ret (.nx (pE c A (ffL (pws c A (i + 1))) (some (.val (nI i))) (some (.val (fD (pw c A (i + 1))))))) := by
      unfold sIf
      rw [pows_test, decide_eq_false n]
      rfl
    refine (seq_nx s2).trans ?_
    have z : ((pws c A (i + 1)).map fun l => fD l).length < sizeLine := small1000 (by rw [List.length_map, pws_len]; omega)
    show (if ((pws c A (i + 1)).map fun l => fD l).length < sizeLine then Tr.ret (Out.nx _) else .fail) = _
    rw [if_pos z, pws_succ c A (i + 1)]
    unfold ffL
    rw [List.map_append]
    rfl
  have end_ : ∀ env, St U env → ∃ e1, gN 3 (nI U) env = some e1 ∧ bPows e1 = .ret (.rv (.tuple [ffL (pws c A (U + 1)), nI f])) := by
    rintro env ⟨d3, d4, rfl⟩
    refine ⟨pE c A (ffL (pws c A (U + 1))) (some (.val (nI U))) d4, rfl, ?_⟩
    refine (seq_nx (pows_then h1 h5 hA U)).trans ?_
    have m : pw c A (U + 1) ∈ pws c A (U + 1) := t.old
    have ix : eIdxA (eVar 2) (eVar 4) [some (.val (nI c)), some (.val (fD A)), some (.val (ffL (pws c A (U + 1)))), some (.val (nI U)), some (.val (fD (pw c A (U + 1))))] = .ret (nI f) := by
      show Tr.ofOpt (dIdxA ((pws c A (U + 1)).map fun l => fD l) (fD (pw c A (U + 1)))) = _
      rw [dIdxA_f m]
      have q : (pws c A (U + 1)).idxOf (pw c A (U + 1)) = f := t.idx
      rw [q]
      rfl
    have s2 : sIf (tt (e2 (dInA false) (eVar 4) (eVarB 2))) (fun env => (sRet (eTup (lCons (eVar 2) (lCons (eIdxA (eVar 2) (eVar 4)) lNil)))) (frz 2 env)) sNext (pE c A (ffL (pws c A (U + 1))) (some (.val (nI U))) (some (.val (fD (pw c A (U + 1)))))) = .ret (.rv (.tuple [ffL (pws c A (U + 1)), nI f])) := by
      unfold sIf
      rw [pows_test, decide_eq_true m, bret, if_pos rfl]
      exact ret_rv (tup2 (x := ffL (pws c A (U + 1))) rfl ix)
    unfold sSeq
    rw [s2]
    rfl
  have st := (v_straight h1 h5).2
  have s1 : sSetO 2 (eLst (lCons (eCall m_law_straight (aVal (eVar 0) aNil)) lNil)) (startE 5 [.val (nI c), .val (fD A)]) = .ret (.nx (pE c A (ffL (pws c A 1)) none none)) := by
    have a : eCall m_law_straight (aVal (eVar 0) aNil) (startE 5 [.val (nI c), .val (fD A)]) = .ret (fD (stL c)) := call_r (a1 (d := nI c) rfl) st
    unfold sSetO
    rw [lst1 a]
    rfl
  have s2 : sForR (lCons (eC (.int 40)) lNil) (gN 3) bPows (pE c A (ffL (pws c A 1)) none none) = .ret (.rv (.tuple [ffL (pws c A (U + 1)), nI f])) := by
    rw [forR_n (n := 40) rfl (by decide)]
    exact for_stop (St := St) (T := U) (by omega) go end_ ⟨none, none, rfl⟩
  unfold m_law_powers
  refine fn_v ((seq_nx (env := startE 5 [.val (nI c), .val (fD A)]) s1).trans ?_)
  exact seq_rv s2
/-! ### the program's powers -/
abbrev bCrs : FS := sSeq (sAsg (eCall m_put_together (aVal (eVar 0) (aVal (e2 dIx (eVarB 2) (eNeg (eC (.int 1)))) (aVal (eVar 1) aNil)))) (gT 2 (gsCons (gN 4) (gsCons (gN 5) gsNil)))) (sSeq (sApp 2 (eVar 4)) (sApp 3 (e2 dAddA (e2 dIx (eVarB 3) (eNeg (eC (.int 1)))) (eVar 5))))
abbrev tCrs : FT := tt (e2 (dInA true) (e2 dIx (eVarB 2) (eNeg (eC (.int 1)))) (eSl dSlA (eVarB 2) oNone (oSome (eNeg (eC (.int 1))))))
def qE (c : Nat) (A : List Nat) (L M : D) (d4 d5 : Option Slot) : Ev := [some (.val (nI c)), some (.val (fD A)), some (.own L), some (.own M), d4, d5]
theorem v_course_of {c : Nat} {A : List Nat} (h1 : 1 ≤ c) (h5 : c ≤ 5) (hA : Val c A) {f T : Nat} (t : Turn c A f T) : m_course_of [.val (nI c), .val (fD A)] = .ret (.tuple [nI f, ffL (pws c A (T + 1)), lD (lws c A (T + 1))]) := by
  have le := t.le
  have lt := t.lt
  let St : Nat → Ev → Prop := fun i env => ∃ d4 d5, env = qE c A (ffL (pws c A (i + 1))) (lD (lws c A (i + 1))) d4 d5
  have test : ∀ i d4 d5, tCrs (qE c A (ffL (pws c A (i + 1))) (lD (lws c A (i + 1))) d4 d5) = .ret (!decide (pw c A i ∈ pws c A i)) := fun i d4 d5 => by
    have a : e2 dIx (eVarB 2) (eNeg (eC (.int 1))) (qE c A (ffL (pws c A (i + 1))) (lD (lws c A (i + 1))) d4 d5) = .ret (fD (pw c A i)) := e2_r (x := ffL (pws c A (i + 1))) rfl neg1 (by
      rw [pws_succ]
      exact last_f)
    have b : eSl dSlA (eVarB 2) oNone (oSome (eNeg (eC (.int 1)))) (qE c A (ffL (pws c A (i + 1))) (lD (lws c A (i + 1))) d4 d5) = .ret (ffL (pws c A i)) := by
      show Tr.ofOpt (dSlA none (some (-1)) (ffL (pws c A (i + 1)))) = _
      rw [pws_succ, init_f]
      rfl
    have q := e2_r a b (dInA_f (neg := true) (x := pw c A i) (ls := pws c A i))
    unfold tCrs tt
    rw [q]
    rfl
  have go : ∀ i env, i < T → St i env → tCrs env = .ret true ∧ ∃ e2, bCrs env = .ret (.nx e2) ∧ St (i + 1) e2 := by
    rintro i env hi ⟨d4, d5, rfl⟩
    refine ⟨?_, qE c A (ffL (pws c A (i + 2))) (lD (lws c A (i + 2))) (some (.val (fD (pw c A (i + 1))))) (some (.val (nI (leftL c (pw c A i) A)))), ?_, _, _, rfl⟩
    · rw [test]
      have : pw c A i ∉ pws c A i := by
        cases i with
        | zero => intro z; cases z
        | succ i => exact t.new hi
      rw [decide_eq_false this]
      rfl
    · have a : e2 dIx (eVarB 2) (eNeg (eC (.int 1))) (qE c A (ffL (pws c A (i + 1))) (lD (lws c A (i + 1))) d4 d5) = .ret (fD (pw c A i)) := e2_r (x := ffL (pws c A (i + 1))) rfl neg1 (by
        rw [pws_succ]
        exact last_f)
      have b : eCall m_put_together (aVal (eVar 0) (aVal (e2 dIx (eVarB 2) (eNeg (eC (.int 1)))) (aVal (eVar 1) aNil))) (qE c A (ffL (pws c A (i + 1))) (lD (lws c A (i + 1))) d4 d5) = .ret (.tuple [fD (pw c A (i + 1)), nI (leftL c (pw c A i) A)]) := call_r (aC (d := nI c) rfl (aC a (a1 (d := fD A) rfl))) (v_put h1 h5 (pw_val i) hA)
      refine (seq_nx (asg_two (i := 4) (j := 5) b)).trans ?_
      have z : ((pws c A (i + 1)).map fun l => fD l).length < sizeLine := small1000 (by rw [List.length_map, pws_len]; omega)
      have z2 : (nL (lws c A (i + 1))).length < sizeLine := small1000 (by rw [nL_len, lws_len]; omega)
      have g1 : sApp 2 (eVar 4) (qE c A (ffL (pws c A (i + 1))) (lD (lws c A (i + 1))) (some (.val (fD (pw c A (i + 1))))) (some (.val (nI (leftL c (pw c A i) A))))) = .ret (.nx (qE c A (ffL (pws c A (i + 2))) (lD (lws c A (i + 1))) (some (.val (fD (pw c A (i + 1))))) (some (.val (nI (leftL c (pw c A i) A)))))) := by
        show (if ((pws c A (i + 1)).map fun l => fD l).length < sizeLine then Tr.ret (Out.nx _) else .fail) = _
        rw [if_pos z, pws_succ c A (i + 1)]
        unfold ffL
        rw [List.map_append]
        rfl
      refine (seq_nx (env := qE c A (ffL (pws c A (i + 1))) (lD (lws c A (i + 1))) (some (.val (fD (pw c A (i + 1))))) (some (.val (nI (leftL c (pw c A i) A))))) g1).trans ?_
      have g2 : e2 dAddA (e2 dIx (eVarB 3) (eNeg (eC (.int 1)))) (eVar 5) (qE c A (ffL (pws c A (i + 2))) (lD (lws c A (i + 1))) (some (.val (fD (pw c A (i + 1))))) (some (.val (nI (leftL c (pw c A i) A))))) = .ret (nI (lw c A (i + 1))) := e2_r (e2_r (x := lD (lws c A (i + 1))) rfl neg1 (by
        rw [lws_succ]
        exact last_n)) (y := nI (leftL c (pw c A i) A)) rfl nI_add
      show ((e2 dAddA (e2 dIx (eVarB 3) (eNeg (eC (.int 1)))) (eVar 5) (qE c A (ffL (pws c A (i + 2))) (lD (lws c A (i + 1))) (some (.val (fD (pw c A (i + 1))))) (some (.val (nI (leftL c (pw c A i) A)))))).bind _) = _
      rw [g2, bret, if_pos z2, lws_succ c A (i + 1)]
      unfold lD nL
      rw [List.map_append]
      rfl
  have end_ : ∀ env, St T env → tCrs env = .ret false := by
    rintro env ⟨d4, d5, rfl⟩
    have m : pw c A T ∈ pws c A T := t.old
    rw [test, decide_eq_true m]
    rfl
  have st := (v_straight h1 h5).1
  have s1 : sSetO 2 (eLst (lCons (eCall m_straight_figure (aVal (eVar 0) aNil)) lNil)) (startE 6 [.val (nI c), .val (fD A)]) = .ret (.nx [some (.val (nI c)), some (.val (fD A)), some (.own (ffL (pws c A 1))), none, none, none]) := by
    have a : eCall m_straight_figure (aVal (eVar 0) aNil) (startE 6 [.val (nI c), .val (fD A)]) = .ret (fD (stL c)) := call_r (a1 (d := nI c) rfl) st
    unfold sSetO
    rw [lst1 a]
    rfl
  have s2 : sSetO 3 (eLst (lCons (eC (.int 0)) lNil)) [some (.val (nI c)), some (.val (fD A)), some (.own (ffL (pws c A 1))), none, none, none] = .ret (.nx (qE c A (ffL (pws c A 1)) (lD (lws c A 1)) none none)) := rfl
  obtain ⟨e, w, d4, d5, ee⟩ := while_stop (c := tCrs) (body := bCrs) (St := St) (T := T) go end_ (fuel := 1000000) (by omega) (env := qE c A (ffL (pws c A 1)) (lD (lws c A 1)) none none) ⟨none, none, rfl⟩
  subst ee
  unfold m_course_of
  refine fn_v ((seq_nx (env := startE 6 [.val (nI c), .val (fD A)]) s1).trans ((seq_nx s2).trans ((seq_nx w).trans ?_)))
  let e3 : Ev := [some (.val (nI c)), some (.val (fD A)), some (.val (ffL (pws c A (T + 1)))), some (.val (lD (lws c A (T + 1)))), d4, d5]
  show sRet (eTup (lCons (eIdxA (eVar 2) (e2 dIx (eVar 2) (eNeg (eC (.int 1))))) (lCons (eVar 2) (lCons (eVar 3) lNil)))) e3 = _
  have i1 : e2 dIx (eVar 2) (eNeg (eC (.int 1))) e3 = .ret (fD (pw c A T)) := e2_r (x := ffL (pws c A (T + 1))) rfl neg1 (by
    rw [pws_succ]
    exact last_f)
  have m2 : pw c A T ∈ pws c A (T + 1) := by
    rw [pws_succ]
    exact List.mem_append_right _ (List.mem_singleton.mpr rfl)
  have q : (pws c A (T + 1)).idxOf (pw c A T) = f := by
    rw [pws_succ, List.idxOf_append, if_pos (show pw c A T ∈ pws c A T from t.old)]
    exact t.idx
  have i2 : eIdxA (eVar 2) (e2 dIx (eVar 2) (eNeg (eC (.int 1)))) e3 = .ret (nI f) := by
    show ((e2 dIx (eVar 2) (eNeg (eC (.int 1))) e3).bind fun y => Tr.ofOpt (dIdxA ((pws c A (T + 1)).map fun l => fD l) y)) = _
    rw [i1, bret, dIdxA_f m2, q]
    rfl
  refine ret_rv ?_
  have e : lCons (eIdxA (eVar 2) (e2 dIx (eVar 2) (eNeg (eC (.int 1))))) (lCons (eVar 2) (lCons (eVar 3) lNil)) e3 = .ret [nI f, ffL (pws c A (T + 1)), lD (lws c A (T + 1))] := by
    show ((eIdxA (eVar 2) (e2 dIx (eVar 2) (eNeg (eC (.int 1)))) e3).bind _) = _
    rw [i2]
    rfl
  unfold eTup
  rw [e, bret]
  exact if_pos (show 3 ≤ sizeLine by decide)
end FL
end
section
set_option linter.all false
/-! What is left over of powers. Plain mathematics. -/
namespace FM
section
variable {c : Nat} {A : List Nat}
theorem lw_add (a : Nat) : ∀ b, lw c A (a + b) = lw c A a + lw c A b + leftL c (pw c A a) (pw c A b)
  | 0 => by
    show lw c A a = lw c A a + 0 + leftL c (pw c A a) (stL c)
    rw [(upon_stL (pw_val a)).2]
    omega
  | b + 1 => by
    have s := (uponL_assoc (c := c) (pw c A a) (pw c A b) A).2
    rw [← pw_add] at s
    show lw c A (a + b) + leftL c (pw c A (a + b)) A = lw c A a + (lw c A b + leftL c (pw c A b) A) + leftL c (pw c A a) (uponL c (pw c A b) A)
    rw [lw_add a b]
    omega
variable {f T : Nat}
theorem Turn.left (t : Turn c A f T) : ∀ n, lw c A (T + n) + lw c A f = lw c A (f + n) + lw c A T
  | 0 => by
    show lw c A T + _ = _ + lw c A T
    rw [Nat.add_zero]
    omega
  | n + 1 => by
    have s := Turn.left t n
    show lw c A (T + n) + leftL c (pw c A (T + n)) A + lw c A f = lw c A (f + n) + leftL c (pw c A (f + n)) A + lw c A T
    rw [t.far n]
    omega
theorem lw_mono (a : Nat) : ∀ b, lw c A a ≤ lw c A (a + b)
  | 0 => Nat.le_refl _
  | b + 1 => Nat.le_trans (lw_mono a b) (Nat.le_add_right _ _)
theorem Turn.leftq (t : Turn c A f T) (r : Nat) : ∀ q, lw c A (f + r + (T - f) * q) = lw c A (f + r) + q * (lw c A T - lw c A f)
  | 0 => by
    rw [Nat.mul_zero, Nat.zero_mul]
    rfl
  | q + 1 => by
    have lt := t.lt
    have s := t.left (r + (T - f) * q)
    have ih := Turn.leftq t r q
    have m := lw_mono (c := c) (A := A) f (T - f)
    rw [show f + (T - f) = T by omega] at m
    rw [Nat.mul_succ, show f + r + ((T - f) * q + (T - f)) = T + (r + (T - f) * q) by omega, Nat.succ_mul]
    rw [← Nat.add_assoc f r] at s
    omega
theorem Turn.leftAt (t : Turn c A f T) {n : Nat} (h : f ≤ n) : lw c A n = lw c A (f + (n - f) % (T - f)) + (n - f) / (T - f) * (lw c A T - lw c A f) := by
  have e := t.leftq ((n - f) % (T - f)) ((n - f) / (T - f))
  rw [Nat.add_assoc, Nat.mod_add_div, show f + (n - f) = n by omega] at e
  exact e
theorem lw_le (hl : ∀ X Y, leftL c X Y ≤ 4 * c) : ∀ n, lw c A n ≤ 4 * c * n
  | 0 => Nat.zero_le _
  | n + 1 => by
    have := lw_le hl n
    have h := hl (pw c A n) A
    show lw c A n + leftL c (pw c A n) A ≤ _
    rw [Nat.mul_succ]
    omega
end
end FM
end
section
set_option linter.all false
set_option maxRecDepth 100000
namespace FL
open PySem PySem.Spec PyProof.Rows L2 DL FM
/-! ### the program's power of a number of times -/
theorem v_need_number {n : Nat} (hn : n ≤ 1000000000) : m_need_number [.val (nI n), .val (.int 0), .val (.int 1000000000)] = .ret .none := by
  have e : m_is_between [.val (nI n), .val (.int 0), .val (.int 1000000000)] = .ret (.bool true) := by
    unfold nI
    rw [v_between, decide_eq_true (show (0 : Int) ≤ (n : Int) by omega), decide_eq_true (show (n : Int) ≤ 1000000000 by omega)]
    rfl
  have a : eCall m_is_between (aVal (eVar 0) (aVal (eVar 1) (aVal (eVar 2) aNil))) (startE 3 [.val (nI n), .val (.int 0), .val (.int 1000000000)]) = .ret (.bool true) := call_r (aC (d := nI n) rfl (aC (d := .int 0) rfl (a1 (d := .int 1000000000) rfl))) e
  unfold m_need_number fnF sIf bNot tt
  rw [a]
  rfl
theorem expr_fn {f : FS} {n : Nat} {ss : List Slot} {e : Ev} (h : f (startE n ss) = .ret (.nx e)) : fnF n .v f ss = .ret .none := by
  unfold fnF
  rw [h]
  rfl
theorem v_need_power {c n : Nat} {A : List Nat} (h1 : 1 ≤ c) (h5 : c ≤ 5) (hA : Val c A) (hn : n ≤ 1000000000) : m_need_power [.val (nI c), .val (fD A), .val (nI n)] = .ret .none := by
  unfold m_need_power
  have n1 : sExpr (eCall m_need_cords (aVal (eVar 0) aNil)) (startE 3 [.val (nI c), .val (fD A), .val (nI n)]) = .ret (.nx (startE 3 [.val (nI c), .val (fD A), .val (nI n)])) := expr_nx (call_r (a1 (d := nI c) rfl) (v_need_cords h1 h5))
  have n2 : sExpr (eCall m_need_figure (aVal (eVar 0) (aVal (eVar 1) aNil))) (startE 3 [.val (nI c), .val (fD A), .val (nI n)]) = .ret (.nx (startE 3 [.val (nI c), .val (fD A), .val (nI n)])) := expr_nx (call_r (aC (d := nI c) rfl (a1 (d := fD A) rfl)) (v_need_figure h5 hA))
  have n3 : sExpr (eCall m_need_number (aVal (eVar 2) (aVal (eC (.int 0)) (aVal (eC (.int 1000000000)) aNil)))) (startE 3 [.val (nI c), .val (fD A), .val (nI n)]) = .ret (.nx (startE 3 [.val (nI c), .val (fD A), .val (nI n)])) := expr_nx (call_r (aC (d := nI n) rfl (aC (d := .int 0) rfl (a1 (d := .int 1000000000) rfl))) (v_need_number hn))
  exact expr_fn ((seq_nx n1).trans ((seq_nx n2).trans n3))
theorem asg_three {f : FE} {i j k : Nat} {env : Ev} {x y z : D} (h : f env = .ret (.tuple [x, y, z])) : sAsg f (gT 3 (gsCons (gN i) (gsCons (gN j) (gsCons (gN k) gsNil)))) env = .ret (.nx (((env.set i (some (.val x))).set j (some (.val y))).set k (some (.val z)))) := by
  unfold sAsg
  rw [h]
  rfl
theorem len_f {f : FE} {env : Ev} {ls : List (List Nat)} (h : f env = .ret (ffL ls)) : eCB dLenA (lCons f lNil) env = .ret (nI ls.length) := by
  unfold eCB
  rw [lc1 h]
  show Tr.ret (PyData.int ((ls.map fun l => fD l).length : Nat)) = _
  rw [List.length_map]
  rfl
theorem dDivmod_n {a b : Nat} (h0 : 0 < b) (h1 : b < 1000) : dDivmod [nI a, nI b] = some (.tuple [nI (a / b), nI (a % b)]) := by
  unfold nI dDivmod
  dsimp only
  rw [if_pos ⟨by omega, by omega⟩]
  rfl
theorem lt_n {a b : Nat} : dLt (nI a) (nI b) = some (.bool (decide (a < b))) := by
  show some (PyData.bool (decide ((a : Int) < (b : Int)))) = _
  by_cases h : a < b
  · rw [decide_eq_true h, decide_eq_true (show (a : Int) < (b : Int) by omega)]
  · rw [decide_eq_false h, decide_eq_false (show ¬ ((a : Int) < (b : Int)) by omega)]
theorem tt_b {f : FE} {env : Ev} {b : Bool} (h : f env = .ret (.bool b)) : tt f env = .ret b := by
  unfold tt
  rw [h]
  rfl
theorem lws_at {c : Nat} {A : List Nat} {n i : Nat} (h : i < n) : (lws c A n).getD i 0 = lw c A i := by
  unfold lws
  rw [List.getD_eq_getElem?_getD, List.getElem?_map, List.getElem?_range h]
  rfl
theorem v_power_left {c n : Nat} {A : List Nat} (h1 : 1 ≤ c) (h5 : c ≤ 5) (hA : Val c A) (hn : n ≤ 1000000000) {f T : Nat} (t : Turn c A f T) : m_power_and_leftovers [.val (nI c), .val (fD A), .val (nI n)] = .ret (.tuple [fD (pw c A n), nI (lw c A n)]) := by
  have le := t.le
  have lt := t.lt
  have pl := pws_len c A (T + 1)
  have ll := lws_len c A (T + 1)
  have cs := v_course_of h1 h5 hA t
  let L := ffL (pws c A (T + 1))
  let M := lD (lws c A (T + 1))
  have s1 : sAsg (eCall m_course_of (aVal (eVar 0) (aVal (eVar 1) aNil))) (gT 3 (gsCons (gN 4) (gsCons (gN 5) (gsCons (gN 6) gsNil)))) (startE 9 [.val (nI c), .val (fD A), .val (nI n)]) = .ret (.nx [some (.val (nI c)), some (.val (fD A)), some (.val (nI n)), none, some (.val (nI f)), some (.val L), some (.val M), none, none]) := asg_three (i := 4) (j := 5) (k := 6) (call_r (aC (d := nI c) rfl (a1 (d := fD A) rfl)) cs)
  let e1 : Ev := [some (.val (nI c)), some (.val (fD A)), some (.val (nI n)), none, some (.val (nI f)), some (.val L), some (.val M), none, none]
  have tst : tt (e2 dLt (eVar 2) (eVar 4)) e1 = .ret (decide (n < f)) := tt_b (e2_r (x := nI n) (y := nI f) rfl rfl lt_n)
  unfold m_power_and_leftovers
  by_cases z : n < f
  · have r1 : e2 dIx (eVar 5) (eVar 2) e1 = .ret (fD (pw c A n)) := e2_r (x := L) (y := nI n) rfl rfl (at_f (pws_at (by omega)))
    have r2 : e2 dIx (eVar 6) (eVar 2) e1 = .ret (nI (lw c A n)) := by
      rw [← lws_at (c := c) (A := A) (show n < T + 1 by omega)]
      exact e2_r (x := M) (y := nI n) rfl rfl (atL (by omega))
    have s2 : sIf (tt (e2 dLt (eVar 2) (eVar 4))) (sRet (eTup (lCons (e2 dIx (eVar 5) (eVar 2)) (lCons (e2 dIx (eVar 6) (eVar 2)) lNil)))) sNext e1 = .ret (.rv (.tuple [fD (pw c A n), nI (lw c A n)])) := by
      unfold sIf
      rw [tst, decide_eq_true z, bret, if_pos rfl]
      exact ret_rv (tup2 r1 r2)
    exact fn_v ((seq_nx (env := startE 9 [.val (nI c), .val (fD A), .val (nI n)]) s1).trans (seq_rv s2))
  · have s2 : sIf (tt (e2 dLt (eVar 2) (eVar 4))) (sRet (eTup (lCons (e2 dIx (eVar 5) (eVar 2)) (lCons (e2 dIx (eVar 6) (eVar 2)) lNil)))) sNext e1 = .ret (.nx e1) := by
      unfold sIf
      rw [tst, decide_eq_false z]
      rfl
    have a1 : e2 dSub (eVar 2) (eVar 4) e1 = .ret (nI (n - f)) := e2_r (x := nI n) (y := nI f) rfl rfl (nI_sub (by omega))
    have a0 : eCB dLenA (lCons (eVar 5) lNil) e1 = .ret (nI (T + 1)) := by
      rw [len_f (ls := pws c A (T + 1)) rfl, pl]
    have a2 : e2 dSub (e2 dSub (eCB dLenA (lCons (eVar 5) lNil)) (eC (.int 1))) (eVar 4) e1 = .ret (nI (T - f)) := e2_r (e2_r a0 (y := nI 1) rfl (nI_sub (by omega))) (y := nI f) rfl (nI_sub (by omega))
    have s3 : sAsg (eCB dDivmod (lCons (e2 dSub (eVar 2) (eVar 4)) (lCons (e2 dSub (e2 dSub (eCB dLenA (lCons (eVar 5) lNil)) (eC (.int 1))) (eVar 4)) lNil))) (gT 2 (gsCons (gN 7) (gsCons (gN 8) gsNil))) e1 = .ret (.nx [some (.val (nI c)), some (.val (fD A)), some (.val (nI n)), none, some (.val (nI f)), some (.val L), some (.val M), some (.val (nI ((n - f) / (T - f)))), some (.val (nI ((n - f) % (T - f))))]) := asg_two (i := 7) (j := 8) (cb_r (lc2 a1 a2) (dDivmod_n (by omega) (by omega)))
    let e2' : Ev := [some (.val (nI c)), some (.val (fD A)), some (.val (nI n)), none, some (.val (nI f)), some (.val L), some (.val M), some (.val (nI ((n - f) / (T - f)))), some (.val (nI ((n - f) % (T - f))))]
    have b1 : e2 dIx (eVar 6) (eNeg (eC (.int 1))) e2' = .ret (nI (lw c A T)) := e2_r (x := M) rfl neg1 (by
      show dIx (lD (lws c A (T + 1))) (.int (-1)) = _
      rw [lws_succ]
      exact last_n)
    have b2 : e2 dIx (eVar 6) (eVar 4) e2' = .ret (nI (lw c A f)) := by
      rw [← lws_at (c := c) (A := A) (show f < T + 1 by omega)]
      exact e2_r (x := M) (y := nI f) rfl rfl (atL (by omega))
    have mono : lw c A f ≤ lw c A T := by
      have := lw_mono (c := c) (A := A) f (T - f)
      rwa [show f + (T - f) = T by omega] at this
    let g : Nat := lw c A T - lw c A f
    have s4 : sSet 3 (e2 dSub (e2 dIx (eVar 6) (eNeg (eC (.int 1)))) (e2 dIx (eVar 6) (eVar 4))) e2' = .ret (.nx [some (.val (nI c)), some (.val (fD A)), some (.val (nI n)), some (.val (nI g)), some (.val (nI f)), some (.val L), some (.val M), some (.val (nI ((n - f) / (T - f)))), some (.val (nI ((n - f) % (T - f))))]) := set_nx (e2_r b1 b2 (nI_sub mono))
    let e3 : Ev := [some (.val (nI c)), some (.val (fD A)), some (.val (nI n)), some (.val (nI g)), some (.val (nI f)), some (.val L), some (.val M), some (.val (nI ((n - f) / (T - f)))), some (.val (nI ((n - f) % (T - f))))]
    have md : (n - f) % (T - f) < T - f := Nat.mod_lt _ (by omega)
    have c0 : e2 dAddA (eVar 4) (eVar 8) e3 = .ret (nI (f + (n - f) % (T - f))) := e2_r (x := nI f) (y := nI ((n - f) % (T - f))) rfl rfl nI_add
    have c1 : e2 dIx (eVar 5) (e2 dAddA (eVar 4) (eVar 8)) e3 = .ret (fD (pw c A n)) := by
      rw [t.at (show f ≤ n by omega)]
      exact e2_r (x := L) rfl c0 (at_f (pws_at (by omega)))
    have c2 : e2 dIx (eVar 6) (e2 dAddA (eVar 4) (eVar 8)) e3 = .ret (nI (lw c A (f + (n - f) % (T - f)))) := by
      rw [← lws_at (c := c) (A := A) (show f + (n - f) % (T - f) < T + 1 by omega)]
      exact e2_r (x := M) rfl c0 (atL (by omega))
    have dv : (n - f) / (T - f) ≤ n := Nat.le_trans (Nat.div_le_self _ _) (Nat.sub_le _ _)
    have hh : dMul (nI ((n - f) / (T - f))) (nI g) = some (nI ((n - f) / (T - f) * g)) := by
      generalize (n - f) / (T - f) = qq at dv
      generalize g = gg
      unfold nI dMul
      dsimp only
      rw [if_pos (.inl ⟨by omega, by omega⟩)]
      rfl
    have c3 : e2 dMul (eVar 7) (eVar 3) e3 = .ret (nI ((n - f) / (T - f) * g)) := e2_r (x := nI ((n - f) / (T - f))) (y := nI g) rfl rfl hh
    have c4 := e2_r c2 c3 nI_add
    have fin : lw c A (f + (n - f) % (T - f)) + (n - f) / (T - f) * g = lw c A n := (t.leftAt (show f ≤ n by omega)).symm
    rw [fin] at c4
    exact fn_v ((seq_nx (env := startE 9 [.val (nI c), .val (fD A), .val (nI n)]) s1).trans ((seq_nx s2).trans ((seq_nx s3).trans ((seq_nx s4).trans (ret_rv (tup2 c1 c4))))))
theorem v_power {c n : Nat} {A : List Nat} (h1 : 1 ≤ c) (h5 : c ≤ 5) (hA : Val c A) (hn : n ≤ 1000000000) : m_power [.val (nI c), .val (fD A), .val (nI n)] = .ret (fD (pw c A n)) := by
  obtain ⟨f, T, t⟩ := turn h5 hA
  have q := v_power_left h1 h5 hA hn t
  have n1 : sExpr (eCall m_need_power (aVal (eVar 0) (aVal (eVar 1) (aVal (eVar 2) aNil)))) (startE 3 [.val (nI c), .val (fD A), .val (nI n)]) = .ret (.nx (startE 3 [.val (nI c), .val (fD A), .val (nI n)])) := expr_nx (call_r (aC (d := nI c) rfl (aC (d := fD A) rfl (a1 (d := nI n) rfl))) (v_need_power h1 h5 hA hn))
  have p : eCall m_power_and_leftovers (aVal (eVar 0) (aVal (eVar 1) (aVal (eVar 2) aNil))) (startE 3 [.val (nI c), .val (fD A), .val (nI n)]) = .ret (.tuple [fD (pw c A n), nI (lw c A n)]) := call_r (aC (d := nI c) rfl (aC (d := fD A) rfl (a1 (d := nI n) rfl))) q
  unfold m_power
  exact fn_v ((seq_nx n1).trans (ret_rv (e2_r p (y := .int 0) rfl rfl)))
theorem v_comes {c : Nat} {A : List Nat} (h1 : 1 ≤ c) (h5 : c ≤ 5) (hA : Val c A) {f T : Nat} (t : Turn c A f T) : m_comes_round [.val (nI c), .val (fD A)] = .ret (.tuple [nI f, nI (T - f)]) := by
  have lt := t.lt
  have fs : m_first_and_step [.val (nI c), .val (fD A)] = .ret (.tuple [nI f, nI (T - f)]) := by
    unfold m_first_and_step
    have s1 : sAsg (eCall m_course_of (aVal (eVar 0) (aVal (eVar 1) aNil))) (gT 3 (gsCons (gN 2) (gsCons (gN 3) (gsCons (gN 4) gsNil)))) (startE 5 [.val (nI c), .val (fD A)]) = .ret (.nx [some (.val (nI c)), some (.val (fD A)), some (.val (nI f)), some (.val (ffL (pws c A (T + 1)))), some (.val (lD (lws c A (T + 1))))]) := asg_three (i := 2) (j := 3) (k := 4) (call_r (aC (d := nI c) rfl (a1 (d := fD A) rfl)) (v_course_of h1 h5 hA t))
    refine fn_v ((seq_nx (env := startE 5 [.val (nI c), .val (fD A)]) s1).trans (ret_rv ?_))
    have a0 : eCB dLenA (lCons (eVar 3) lNil) [some (.val (nI c)), some (.val (fD A)), some (.val (nI f)), some (.val (ffL (pws c A (T + 1)))), some (.val (lD (lws c A (T + 1))))] = .ret (nI (T + 1)) := by
      rw [len_f (ls := pws c A (T + 1)) rfl, pws_len]
    exact tup2 (x := nI f) rfl (e2_r (e2_r a0 (y := nI 1) rfl (nI_sub (by omega))) (y := nI f) rfl (nI_sub (by omega)))
  have n1 : sExpr (eCall m_need_cords (aVal (eVar 0) aNil)) (startE 2 [.val (nI c), .val (fD A)]) = .ret (.nx (startE 2 [.val (nI c), .val (fD A)])) := expr_nx (call_r (a1 (d := nI c) rfl) (v_need_cords h1 h5))
  have n2 : sExpr (eCall m_need_figure (aVal (eVar 0) (aVal (eVar 1) aNil))) (startE 2 [.val (nI c), .val (fD A)]) = .ret (.nx (startE 2 [.val (nI c), .val (fD A)])) := expr_nx (call_r (aC (d := nI c) rfl (a1 (d := fD A) rfl)) (v_need_figure h5 hA))
  unfold m_comes_round
  exact fn_v ((seq_nx n1).trans ((seq_nx n2).trans (ret_rv (call_r (aC (d := nI c) rfl (a1 (d := fD A) rfl)) fs))))
theorem v_powers_of {c : Nat} {A : List Nat} (h1 : 1 ≤ c) (h5 : c ≤ 5) (hA : Val c A) {f T : Nat} (t : Turn c A f T) : m_powers_of [.val (nI c), .val (fD A)] = .ret (.tuple ((pws c A T).map fun l => fD l)) := by
  have n1 : sExpr (eCall m_need_cords (aVal (eVar 0) aNil)) (startE 2 [.val (nI c), .val (fD A)]) = .ret (.nx (startE 2 [.val (nI c), .val (fD A)])) := expr_nx (call_r (a1 (d := nI c) rfl) (v_need_cords h1 h5))
  have n2 : sExpr (eCall m_need_figure (aVal (eVar 0) (aVal (eVar 1) aNil))) (startE 2 [.val (nI c), .val (fD A)]) = .ret (.nx (startE 2 [.val (nI c), .val (fD A)])) := expr_nx (call_r (aC (d := nI c) rfl (a1 (d := fD A) rfl)) (v_need_figure h5 hA))
  have p : e2 dIx (eCall m_course_of (aVal (eVar 0) (aVal (eVar 1) aNil))) (eC (.int 1)) (startE 2 [.val (nI c), .val (fD A)]) = .ret (ffL (pws c A (T + 1))) := e2_r (call_r (aC (d := nI c) rfl (a1 (d := fD A) rfl)) (v_course_of h1 h5 hA t)) (y := .int 1) rfl rfl
  have q : eSl dSlA (e2 dIx (eCall m_course_of (aVal (eVar 0) (aVal (eVar 1) aNil))) (eC (.int 1))) oNone (oSome (eNeg (eC (.int 1)))) (startE 2 [.val (nI c), .val (fD A)]) = .ret (ffL (pws c A T)) := by
    unfold eSl
    rw [p, bret]
    show Tr.ofOpt (dSlA none (some (-1)) (ffL (pws c A (T + 1)))) = _
    rw [pws_succ, init_f]
    rfl
  unfold m_powers_of
  exact fn_v ((seq_nx n1).trans ((seq_nx n2).trans (ret_rv (cb_r (lc1 q) rfl))))
end FL
end
section
set_option linter.all false
set_option maxRecDepth 100000
namespace FL
open PySem PySem.Spec PyProof.Rows L2 DL FM
/-! ### the law of powers: its statements -/
def pb0 : FS := (sSet 11 (eIf (tt (e2 dLt (eVar 7) (eVar 10))) (eVar 7) (e2 dAddA (eVar 10) (e2 dMod (eCB dInt1 (lCons (e2 dSub (eVar 7) (eVar 10)) lNil)) (eVar 5)))))
def pb1 : FS := (sIf (bNot (tt (eCall m_law_like (aVal (eCall m_power (aVal (eVar 3) (aVal (eVar 4) (aVal (eVar 7) aNil)))) (aVal (e2 dIx (eVar 9) (eVar 11)) aNil))))) (sRet (eC (.bool false))) sNext)
def pt0 : FS := (sSet 3 (e2 dAddA (eC (.int 1)) (eCall m_law_draw (aOrc 1 (aVal (eC (.int 5)) aNil)))))
def pt1 : FS := (sSet 4 (eCall m_law_any_figure (aOrc 1 (aVal (eVar 3) aNil))))
def pt2 : FS := (sAsg (eCall m_law_powers (aVal (eVar 3) (aVal (eVar 4) aNil))) (gT 2 (gsCons (gN 9) (gsCons (gN 10) gsNil))))
def pt3 : FS := (sSet 5 (e2 dSub (eCB dLenA (lCons (eVar 9) lNil)) (eVar 10)))
def pt4 : FS := (sSet 6 (eLst (lCons (eCall m_comes_round (aVal (eVar 3) (aVal (eVar 4) aNil))) (lCons (eCall m_powers_of (aVal (eVar 3) (aVal (eVar 4) aNil))) lNil))))
def pt5 : FS := (sIf (bOr (tt (e2 dLt (eVar 10) (eC (.int 0)))) (bNot (tt (eCall m_law_like (aVal (eVar 6) (aVal (eLst (lCons (eTup (lCons (eVar 10) (lCons (eVar 5) lNil))) (lCons (eCB dTuple (lCons (eVar 9) lNil)) lNil))) aNil)))))) (sRet (eC (.bool false))) sNext)
def pt6 : FS := (sForS (e2 dAddA (eRgL (lCons (eC (.int 14)) lNil)) (eLst (lCons (eCall m_law_draw (aOrc 1 (aVal (e2 dAddA (e2 dPow (eC (.int 10)) (eC (.int 9))) (eC (.int 1))) aNil))) (lCons (e2 dPow (eC (.int 10)) (eC (.int 9))) (lCons (e2 dAddA (eC (.int 60)) (eCall m_law_draw (aOrc 1 (aVal (eC (.int 60)) aNil)))) lNil))))) (gN 7) (sSeq pb0 pb1))
def pt7 : FS := (sPar false false 12 13 (eCall m_law_draw (aOrc 1 (aVal (eC (.int 9)) aNil))) (eCall m_law_draw (aOrc 1 (aVal (eC (.int 9)) aNil))))
def pt8 : FS := (sSet 8 (e2 dIx (eCall m_law_upon (aVal (eVar 3) (aVal (eCall m_power (aVal (eVar 3) (aVal (eVar 4) (aVal (eVar 12) aNil)))) (aVal (eCall m_power (aVal (eVar 3) (aVal (eVar 4) (aVal (eVar 13) aNil)))) aNil)))) (eC (.int 0))))
def pt9 : FS := (sIf (bNot (tt (eCall m_law_like (aVal (eCall m_power (aReo 3 [2, 0, 1] (aVal (eVar 4) (aVal (e2 dAddA (eVar 12) (eVar 13)) (aVal (eVar 3) aNil))))) (aVal (eVar 8) aNil))))) (sRet (eC (.bool false))) sNext)
def body26 : FS := sSeq pt0 (sSeq pt1 (sSeq pt2 (sSeq pt3 (sSeq pt4 (sSeq pt5 (sSeq pt6 (sSeq pt7 (sSeq pt8 (pt9)))))))))
def rest26 : FS := sSeq (sForR (lCons (e2 dAddA (eC (.int 1)) (eCB dMin2 (lCons (eC (.int 3)) (lCons (eCB dLenA (lCons (eVar 0) lNil)) lNil)))) lNil) (gN 2) body26) (sRet (eC (.bool true)))
/-! ### any figure -/
theorem ok_seqR {f g : FS} {env : Ev} {n m : Nat} {P : Ev → Prop} {R : D → Prop} (h : Ok (f env) n fun o => (∃ e, o = .nx e ∧ P e) ∨ ∃ d, o = .rv d ∧ R d) (k : ∀ e, P e → Ok (g e) m fun o => ∃ d, o = .rv d ∧ R d) : Ok (sSeq f g env) (n + m) fun o => ∃ d, o = .rv d ∧ R d := by
  unfold sSeq
  refine Ok.bind h fun o ho => ?_
  rcases ho with ⟨e, eo, he⟩ | ⟨d, eo, hd⟩
  · subst eo
    exact k e he
  · subst eo
    exact (Ok.ret ⟨d, rfl, hd⟩).mono (Nat.zero_le _) fun _ h => h
theorem ok_aC {f : FE} {r : FA} {env : Ev} {x : D} {n : Nat} {P : List Slot → Prop} (h : f env = .ret x) (hr : Ok (r env) n P) : Ok (aVal f r env) n fun ss => ∃ ss', ss = .val x :: ss' ∧ P ss' := by
  unfold aVal
  rw [h, bret]
  exact (Ok.bind (m := 0) hr fun ss hs => Ok.ret ⟨ss, rfl, hs⟩).mono (Nat.le_refl _) fun _ h => h
theorem ok_any {c : Nat} (h1 : 1 ≤ c) (h5 : c ≤ 5) : Ok (m_law_any_figure [.orc, .val (nI c)]) 28 fun d => ∃ xs, Val c xs ∧ d = fD xs := by
  unfold m_law_any_figure
  refine ok_fn ?_
  have q : Ok (eCall m_law_draw (aOrc 0 (aVal (eC (.int 3)) aNil)) (startE 4 [.orc, .val (nI c)])) 1 fun d => ∃ i, i < 3 ∧ d = nI i := ok_callr (ss := [.orc, .val (nI 3)]) rfl (ok_draw (l := 3) (by decide) (by decide))
  refine (ok_seq (m := 27) (ok_set q) ?_).mono (by decide) fun _ h => h
  rintro e ⟨d, ⟨i, hi, rfl⟩, rfl⟩
  let e1 : Ev := [some .orc, some (.val (nI c)), some (.val (nI i)), none]
  show Ok (sSeq _ _ e1) 27 _
  have tst : ∀ k : Nat, tt (e2 dEq (eVar 2) (eC (nI k))) e1 = .ret (decide (i = k)) := fun k => tt_b (e2_r (x := nI i) (y := nI k) rfl rfl nI_eq)
  by_cases z : i = 0
  · refine (ok_seqR (n := 2 * c) (m := 0) (P := fun _ => False) (R := fun d => ∃ xs, Val c xs ∧ d = fD xs) ?_ fun _ h => h.elim).mono (by omega) fun _ h => h
    unfold sIf
    rw [show tt (e2 dEq (eVar 2) (eC (.int 0))) e1 = .ret (decide (i = 0)) from tst 0, decide_eq_true z, bret, if_pos rfl]
    have s : Ok (eCall m_law_some_figure (aOrc 0 (aVal (eVar 1) aNil)) e1) (2 * c) fun d => ∃ xs, Val c xs ∧ d = fD xs := ok_callr (aO rfl (a1 (d := nI c) rfl)) (ok_some_figure h1 h5)
    exact (ok_sret s).mono (Nat.le_refl _) fun o h => .inr h
  · have s2 : sIf (tt (e2 dEq (eVar 2) (eC (.int 0)))) (sRet (eCall m_law_some_figure (aOrc 0 (aVal (eVar 1) aNil)))) sNext e1 = .ret (.nx e1) := by
      unfold sIf
      rw [show tt (e2 dEq (eVar 2) (eC (.int 0))) e1 = .ret (decide (i = 0)) from tst 0, decide_eq_false z]
      rfl
    rw [seq_nx s2]
    have fm : Ok (eIf (tt (e2 dEq (eVar 2) (eC (.int 1)))) (eCall m_law_some_family (aOrc 0 aNil)) (eTup (lCons (eC (.str "swap")) lNil)) e1) 5 fun d => ∃ ws, ws ∈ fams ∧ d = famD ws := by
      unfold eIf
      rw [show tt (e2 dEq (eVar 2) (eC (.int 1))) e1 = .ret (decide (i = 1)) from tst 1, bret]
      by_cases y : i = 1
      · rw [decide_eq_true y, if_pos rfl]
        exact ok_callr (ss := [.orc]) rfl ok_some_family
      · rw [decide_eq_false y, if_neg (by decide)]
        exact (Ok.of (a := famD [3]) rfl ⟨[3], by decide, rfl⟩).mono (by decide) fun _ h => h
    refine (ok_seq (m := 11) (ok_set fm) ?_).mono (by decide) fun _ h => h
    rintro e ⟨d, ⟨ws, hw, rfl⟩, rfl⟩
    let e2' : Ev := [some .orc, some (.val (nI c)), some (.val (nI i)), some (.val (famD ws))]
    show Ok (sRet _ e2') 11 _
    refine ok_sret ?_
    have rw1 : Ok (eCall m_law_row (aOrc 0 (aVal (eVar 1) (aVal (eVar 3) (aVal (eC (.int 9)) aNil)))) e2') 11 fun d => ∃ ds, d = rowD ds ∧ ds.length ≤ 10 ∧ ∀ d ∈ ds, d ∈ deedsOf c [0, 1, 2, 3] := ok_callr (aO rfl (aC (d := nI c) rfl (aC (d := famD ws) rfl (a1 (d := nI 9) rfl)))) (ok_rowM (M := 9) (by decide) h1 h5 hw)
    have fg1 : Ok (eCall m_law_figure (aVal (eVar 1) (aVal (eCall m_law_row (aOrc 0 (aVal (eVar 1) (aVal (eVar 3) (aVal (eC (.int 9)) aNil))))) aNil)) e2') 11 fun d => ∃ xs k, Val c xs ∧ d = .tuple [fD xs, nI k] := by
      refine (ok_call (m := 0) (ok_aC (x := nI c) rfl (ok_a1 rw1)) ?_).mono (Nat.le_refl _) fun _ h => h
      rintro ss ⟨ss', rfl, d, rfl, ds, rfl, hl, hd⟩
      obtain ⟨q1, q2⟩ := v_lawfig h1 h5 hd
      exact Ok.of q1 ⟨_, _, q2, rfl⟩
    refine ok_e2l (y := nI 0) fg1 rfl ?_
    rintro x ⟨xs, k, hv, rfl⟩
    exact ⟨fD xs, rfl, xs, hv, rfl⟩
theorem ok_drawB {l : Nat} (h1 : 1 ≤ l) (h2 : l < 1073741824) : Ok (m_law_draw [.orc, .val (nI l)]) 1 fun d => ∃ i, i < l ∧ d = nI i := by
  refine ⟨fun b hb => ?_⟩
  have e : m_law_draw [.orc, .val (nI l)] = .draw l fun i => .ret (nI i) := by
    show (if 1 ≤ (l : Int) ∧ (l : Int) < 1073741824 then Tr.draw (l : Int).toNat fun i => Tr.ret (PyData.int (i : Nat)) else Tr.fail : Tr D) = _
    rw [if_pos (by omega), Int.toNat_natCast]
    rfl
  rw [e]
  exact ⟨b - 1, by omega, fun i hi => ⟨by omega, i, hi, rfl⟩⟩
theorem v_likeB {d e : D} {k w : Nat} (h : Sh d k w) (hk : k ≤ 30) (hw : w ≤ 100000) (he : d = e) : m_law_like [.val d, .val e] = .ret (.bool true) := by
  subst he
  have r : dRepr [d] = some (.str d.shown) := by
    exact if_pos ⟨h.s, h.h, Nat.le_trans h.p hk, Nat.le_trans (Nat.le_trans h.l hw) (by decide)⟩
  have a : eCB dRepr (lCons (eVar 0) lNil) (startE 2 [.val d, .val d]) = .ret (.str d.shown) := cb_r (lc1 (d := d) rfl) r
  have b : eCB dRepr (lCons (eVar 1) lNil) (startE 2 [.val d, .val d]) = .ret (.str d.shown) := cb_r (lc1 (d := d) rfl) r
  have q : dEq (.str d.shown) (.str d.shown) = some (.bool true) := by
    have z : SeqAt.shaped (.str d.shown) = true := by
      show (PyData.strOk d.shown && _) = true
      rw [h.o]
      rfl
    unfold dEq
    rw [if_pos ⟨z, z⟩]
    simp [PyData.eqv]
  unfold m_law_like
  exact fn_v (ret_rv (e2_r a b q))
theorem like_nxB {r : FA} {env : Ev} {d e : D} {k w : Nat} (hr : r env = .ret [.val d, .val e]) (h : Sh d k w) (hk : k ≤ 30) (hw : w ≤ 100000) (he : d = e) : sIf (bNot (tt (eCall m_law_like r))) (sRet (eC (.bool false))) sNext env = .ret (.nx env) := by
  unfold sIf bNot tt
  rw [call_r hr (v_likeB h hk hw he)]
  rfl
theorem Sh.fig {c : Nat} {x : List Nat} (h5 : c ≤ 5) (hv : Val c x) : Sh (fD x) 1 53 := by
  have hl := hv.len
  have hc := cnt_len x
  refine (Sh.tuple (xs := nL x) (k := 0) (w := 3) (n := 10) (fun y hy => ?_) (by rw [nL_len]; omega)).mono (Nat.le_refl _) (Nat.le_refl _)
  obtain ⟨n, hn, rfl⟩ := List.mem_map.mp hy
  have := val_lt hv hn
  exact Sh.int (by omega)
end FL
end
section
set_option linter.all false
set_option maxRecDepth 100000
namespace FL
open PySem PySem.Spec PyProof.Rows L2 DL FM
def gE (S : D) (c : Nat) (X : D) (d2 d5 d6 d7 d8 d9 d10 d11 d12 d13 : Option Slot) : Ev := [some (.val S), some .orc, d2, some (.val (nI c)), some (.val X), d5, d6, d7, d8, d9, d10, d11, d12, d13]
def grI (S : D) (e : Ev) : Prop := ∃ d2 d3 d4 d5 d6 d7 d8 d9 d10 d11 d12 d13, e = [some (.val S), some .orc, d2, d3, d4, d5, d6, d7, d8, d9, d10, d11, d12, d13]
section
variable {S : D} {c f T : Nat} {A : List Nat} {d2 d3 d4 d5 d6 d7 d8 d9 d10 d11 d12 d13 : Option Slot}
theorem p0 : Ok (pt0 [some (.val S), some .orc, d2, d3, d4, d5, d6, d7, d8, d9, d10, d11, d12, d13]) 1 fun o => ∃ e, o = .nx e ∧ ∃ c, (1 ≤ c ∧ c ≤ 5) ∧ e = [some (.val S), some .orc, d2, some (.val (nI c)), d4, d5, d6, d7, d8, d9, d10, d11, d12, d13] := by
  have q : Ok (eCall m_law_draw (aOrc 1 (aVal (eC (.int 5)) aNil)) [some (.val S), some .orc, d2, d3, d4, d5, d6, d7, d8, d9, d10, d11, d12, d13]) 1 fun d => ∃ i, i < 5 ∧ d = nI i := ok_callr (ss := [.orc, .val (nI 5)]) rfl (ok_draw (l := 5) (by decide) (by decide))
  unfold pt0
  refine (ok_set (P := fun d => ∃ c, (1 ≤ c ∧ c ≤ 5) ∧ d = nI c) (ok_e2r (x := nI 1) rfl q ?_)).mono (Nat.le_refl _) ?_
  · rintro y ⟨i, hi, rfl⟩
    exact ⟨_, nI_add, 1 + i, ⟨by omega, by omega⟩, rfl⟩
  · rintro o ⟨e, eo, d, ⟨c, hc, rfl⟩, ee⟩
    exact ⟨e, eo, c, hc, ee⟩
theorem p1 (h1 : 1 ≤ c) (h5 : c ≤ 5) : Ok (pt1 [some (.val S), some .orc, d2, some (.val (nI c)), d4, d5, d6, d7, d8, d9, d10, d11, d12, d13]) 28 fun o => ∃ e, o = .nx e ∧ ∃ A, Val c A ∧ e = gE S c (fD A) d2 d5 d6 d7 d8 d9 d10 d11 d12 d13 := by
  have q : Ok (eCall m_law_any_figure (aOrc 1 (aVal (eVar 3) aNil)) [some (.val S), some .orc, d2, some (.val (nI c)), d4, d5, d6, d7, d8, d9, d10, d11, d12, d13]) 28 fun d => ∃ xs, Val c xs ∧ d = fD xs := ok_callr (aO rfl (a1 (d := nI c) rfl)) (ok_any h1 h5)
  unfold pt1
  refine (ok_set q).mono (Nat.le_refl _) ?_
  rintro o ⟨e, eo, d, ⟨A, hA, rfl⟩, ee⟩
  exact ⟨e, eo, A, hA, ee⟩
theorem p2 (h1 : 1 ≤ c) (h5 : c ≤ 5) (hA : Val c A) (t : Turn c A f T) : pt2 (gE S c (fD A) d2 d5 d6 d7 d8 d9 d10 d11 d12 d13) = .ret (.nx (gE S c (fD A) d2 d5 d6 d7 d8 (some (.val (ffL (pws c A T)))) (some (.val (nI f))) d11 d12 d13)) := asg_two (i := 9) (j := 10) (call_r (aC (d := nI c) rfl (a1 (d := fD A) rfl)) (v_law_powers h1 h5 hA t))
theorem p3 (t : Turn c A f T) : pt3 (gE S c (fD A) d2 d5 d6 d7 d8 (some (.val (ffL (pws c A T)))) (some (.val (nI f))) d11 d12 d13) = .ret (.nx (gE S c (fD A) d2 (some (.val (nI (T - f)))) d6 d7 d8 (some (.val (ffL (pws c A T)))) (some (.val (nI f))) d11 d12 d13)) := by
  have lt := t.lt
  have a : eCB dLenA (lCons (eVar 9) lNil) (gE S c (fD A) d2 d5 d6 d7 d8 (some (.val (ffL (pws c A T)))) (some (.val (nI f))) d11 d12 d13) = .ret (nI T) := by
    rw [len_f (ls := pws c A T) rfl, pws_len]
  exact set_nx (e2_r a (y := nI f) rfl (nI_sub (by omega)))
def toldD (c : Nat) (A : List Nat) (f T : Nat) : D := .list [.tuple [nI f, nI (T - f)], .tuple ((pws c A T).map fun l => fD l)]
theorem p4 (h1 : 1 ≤ c) (h5 : c ≤ 5) (hA : Val c A) (t : Turn c A f T) : pt4 (gE S c (fD A) d2 d5 d6 d7 d8 d9 d10 d11 d12 d13) = .ret (.nx (gE S c (fD A) d2 d5 (some (.val (toldD c A f T))) d7 d8 d9 d10 d11 d12 d13)) :=
  set_nx (lst2 (call_r (aC (d := nI c) rfl (a1 (d := fD A) rfl)) (v_comes h1 h5 hA t)) (call_r (aC (d := nI c) rfl (a1 (d := fD A) rfl)) (v_powers_of h1 h5 hA t)))
theorem told_in (h5 : c ≤ 5) (t : Turn c A f T) : Sh (toldD c A f T) 3 4000 := by
  have le := t.le
  have lt := t.lt
  refine (Sh.list (xs := [.tuple [nI f, nI (T - f)], .tuple ((pws c A T).map fun l => fD l)]) (k := 2) (w := 1983) (n := 2) ?_ (Nat.le_refl 2)).mono (Nat.le_refl _) (by decide)
  intro x hx
  rcases List.mem_cons.mp hx with rfl | hx
  · refine (Sh.tuple (xs := [nI f, nI (T - f)]) (k := 0) (w := 3) (n := 2) ?_ (Nat.le_refl 2)).mono (by decide) (by decide)
    intro y hy
    rcases List.mem_cons.mp hy with rfl | hy
    · exact Sh.int (by omega)
    · rcases List.mem_cons.mp hy with rfl | hy
      · exact Sh.int (by omega)
      · cases hy
  · rcases List.mem_cons.mp hx with rfl | hx
    · refine (Sh.tuple (xs := (pws c A T).map fun l => fD l) (k := 1) (w := 53) (n := 36) ?_ (by rw [List.length_map, pws_len]; exact le)).mono (Nat.le_refl _) (by decide)
      intro y hy
      obtain ⟨l, hl, rfl⟩ := List.mem_map.mp hy
      obtain ⟨i, hi, rfl⟩ := List.mem_map.mp hl
      exact Sh.fig h5 (pw_val i)
    · cases hx
theorem p5 (h5 : c ≤ 5) (t : Turn c A f T) : pt5 (gE S c (fD A) d2 (some (.val (nI (T - f)))) (some (.val (toldD c A f T))) d7 d8 (some (.val (ffL (pws c A T)))) (some (.val (nI f))) d11 d12 d13) = .ret (.nx (gE S c (fD A) d2 (some (.val (nI (T - f)))) (some (.val (toldD c A f T))) d7 d8 (some (.val (ffL (pws c A T)))) (some (.val (nI f))) d11 d12 d13)) := by
  let e : Ev := gE S c (fD A) d2 (some (.val (nI (T - f)))) (some (.val (toldD c A f T))) d7 d8 (some (.val (ffL (pws c A T)))) (some (.val (nI f))) d11 d12 d13
  have neg : tt (e2 dLt (eVar 10) (eC (.int 0))) e = .ret false := by
    rw [tt_b (b := decide (f < 0)) (e2_r (x := nI f) (y := nI 0) rfl rfl lt_n), decide_eq_false (by omega)]
  have tp : eCB dTuple (lCons (eVar 9) lNil) e = .ret (.tuple ((pws c A T).map fun l => fD l)) := rfl
  have r : aVal (eVar 6) (aVal (eLst (lCons (eTup (lCons (eVar 10) (lCons (eVar 5) lNil))) (lCons (eCB dTuple (lCons (eVar 9) lNil)) lNil))) aNil) e = .ret [.val (toldD c A f T), .val (toldD c A f T)] := aC (d := toldD c A f T) rfl (a1 (lst2 (tup2 (x := nI f) (y := nI (T - f)) rfl rfl) tp))
  have l : tt (eCall m_law_like (aVal (eVar 6) (aVal (eLst (lCons (eTup (lCons (eVar 10) (lCons (eVar 5) lNil))) (lCons (eCB dTuple (lCons (eVar 9) lNil)) lNil))) aNil))) e = .ret true := tt_b (call_r r (v_likeB (told_in h5 t) (by decide) (by decide) rfl))
  show pt5 e = _
  unfold pt5 sIf bOr
  rw [neg, bret, if_neg (by decide)]
  unfold bNot
  rw [l]
  rfl
/-- which numbers of times are asked -/
theorem p6_list : Ok (e2 dAddA (eRgL (lCons (eC (.int 14)) lNil)) (eLst (lCons (eCall m_law_draw (aOrc 1 (aVal (e2 dAddA (e2 dPow (eC (.int 10)) (eC (.int 9))) (eC (.int 1))) aNil))) (lCons (e2 dPow (eC (.int 10)) (eC (.int 9))) (lCons (e2 dAddA (eC (.int 60)) (eCall m_law_draw (aOrc 1 (aVal (eC (.int 60)) aNil)))) lNil)))) (gE S c (fD A) d2 d5 d6 d7 d8 d9 d10 d11 d12 d13)) 2 fun d => ∃ ms : List Nat, d = lD ms ∧ ms.length ≤ 100 ∧ ∀ n ∈ ms, n ≤ 1000000000 := by
  let e : Ev := gE S c (fD A) d2 d5 d6 d7 d8 d9 d10 d11 d12 d13
  have pow : e2 dPow (eC (.int 10)) (eC (.int 9)) e = .ret (nI 1000000000) := e2_r (x := .int 10) (y := .int 9) rfl rfl (by show (if (0 : Int) ≤ 9 ∧ (9 : Int) ≤ 1000 ∧ (10 : Int).natAbs < 2 ^ 64 then some (PyData.int ((10 : Int) ^ (9 : Int).toNat)) else none) = _; rw [if_pos (by decide)]; rfl)
  have lim : e2 dAddA (e2 dPow (eC (.int 10)) (eC (.int 9))) (eC (.int 1)) e = .ret (nI 1000000001) := e2_r pow (y := nI 1) rfl nI_add
  have a : Ok (eCall m_law_draw (aOrc 1 (aVal (e2 dAddA (e2 dPow (eC (.int 10)) (eC (.int 9))) (eC (.int 1))) aNil)) e) 1 fun d => ∃ i, i < 1000000001 ∧ d = nI i := ok_callr (aO rfl (a1 lim)) (ok_drawB (by decide) (by decide))
  have b0 : Ok (eCall m_law_draw (aOrc 1 (aVal (eC (.int 60)) aNil)) e) 1 fun d => ∃ i, i < 60 ∧ d = nI i := ok_callr (ss := [.orc, .val (nI 60)]) rfl (ok_draw (l := 60) (by decide) (by decide))
  have b : Ok (e2 dAddA (eC (.int 60)) (eCall m_law_draw (aOrc 1 (aVal (eC (.int 60)) aNil))) e) 1 fun d => ∃ i, i < 120 ∧ d = nI i := ok_e2r (x := nI 60) rfl b0 (by
    rintro y ⟨i, hi, rfl⟩
    exact ⟨_, nI_add, 60 + i, by omega, rfl⟩)
  have l2 : Ok (lCons (e2 dPow (eC (.int 10)) (eC (.int 9))) (lCons (e2 dAddA (eC (.int 60)) (eCall m_law_draw (aOrc 1 (aVal (eC (.int 60)) aNil)))) lNil) e) 1 fun ds => ∃ i, i < 120 ∧ ds = [nI 1000000000, nI i] := by
    show Ok ((e2 dPow (eC (.int 10)) (eC (.int 9)) e).bind fun d => (lCons (e2 dAddA (eC (.int 60)) (eCall m_law_draw (aOrc 1 (aVal (eC (.int 60)) aNil)))) lNil e).bind fun ds => .ret (d :: ds)) 1 _
    rw [pow, bret]
    refine (Ok.bind (m := 0) (ok_l1 b) ?_).mono (Nat.le_refl _) fun _ h => h
    rintro ds ⟨d, rfl, i, hi, rfl⟩
    exact Ok.ret ⟨i, hi, rfl⟩
  have l3 : Ok (lCons (eCall m_law_draw (aOrc 1 (aVal (e2 dAddA (e2 dPow (eC (.int 10)) (eC (.int 9))) (eC (.int 1))) aNil))) (lCons (e2 dPow (eC (.int 10)) (eC (.int 9))) (lCons (e2 dAddA (eC (.int 60)) (eCall m_law_draw (aOrc 1 (aVal (eC (.int 60)) aNil)))) lNil)) e) 2 fun ds => ∃ i j, i < 1000000001 ∧ j < 120 ∧ ds = [nI i, nI 1000000000, nI j] := by
    show Ok ((eCall m_law_draw (aOrc 1 (aVal (e2 dAddA (e2 dPow (eC (.int 10)) (eC (.int 9))) (eC (.int 1))) aNil)) e).bind fun d => (lCons (e2 dPow (eC (.int 10)) (eC (.int 9))) (lCons (e2 dAddA (eC (.int 60)) (eCall m_law_draw (aOrc 1 (aVal (eC (.int 60)) aNil)))) lNil) e).bind fun ds => .ret (d :: ds)) 2 _
    refine (Ok.bind (m := 1) a ?_).mono (Nat.le_refl _) fun _ h => h
    rintro d ⟨i, hi, rfl⟩
    refine (Ok.bind (m := 0) l2 ?_).mono (Nat.le_refl _) fun _ h => h
    rintro ds ⟨j, hj, rfl⟩
    exact Ok.ret ⟨i, j, hi, hj, rfl⟩
  have l4 : Ok (eLst (lCons (eCall m_law_draw (aOrc 1 (aVal (e2 dAddA (e2 dPow (eC (.int 10)) (eC (.int 9))) (eC (.int 1))) aNil))) (lCons (e2 dPow (eC (.int 10)) (eC (.int 9))) (lCons (e2 dAddA (eC (.int 60)) (eCall m_law_draw (aOrc 1 (aVal (eC (.int 60)) aNil)))) lNil))) e) 2 fun d => ∃ i j, i < 1000000001 ∧ j < 120 ∧ d = lD [i, 1000000000, j] := by
    unfold eLst
    refine (Ok.bind (m := 0) l3 ?_).mono (Nat.le_refl _) fun _ h => h
    rintro ds ⟨i, j, hi, hj, rfl⟩
    rw [if_pos (show [nI i, nI 1000000000, nI j].length ≤ sizeLine from show 3 ≤ sizeLine by decide)]
    exact Ok.ret ⟨i, j, hi, hj, rfl⟩
  refine ok_e2r (x := lD (List.range 14)) (rgL_n (n := 14) rfl (by decide)) l4 ?_
  rintro y ⟨i, j, hi, hj, rfl⟩
  refine ⟨_, cat_n (by rw [List.length_range]; exact show 14 + 3 ≤ 1000 by decide), List.range 14 ++ [i, 1000000000, j], rfl, by rw [List.length_append, List.length_range]; exact show 14 + 3 ≤ 100 by decide, fun n hn => ?_⟩
  rcases List.mem_append.mp hn with h | h
  · have := List.mem_range.mp h
    omega
  · simp at h
    omega
/-- one number of times -/
theorem p6_turn (h1 : 1 ≤ c) (h5 : c ≤ 5) (hA : Val c A) (t : Turn c A f T) {n : Nat} (hn : n ≤ 1000000000) : ∃ x, sSeq pb0 pb1 (gE S c (fD A) d2 (some (.val (nI (T - f)))) d6 (some (.val (nI n))) d8 (some (.val (ffL (pws c A T)))) (some (.val (nI f))) d11 d12 d13) = .ret (.nx (gE S c (fD A) d2 (some (.val (nI (T - f)))) d6 (some (.val (nI n))) d8 (some (.val (ffL (pws c A T)))) (some (.val (nI f))) x d12 d13)) := by
  have le := t.le
  have lt := t.lt
  let e : Ev := gE S c (fD A) d2 (some (.val (nI (T - f)))) d6 (some (.val (nI n))) d8 (some (.val (ffL (pws c A T)))) (some (.val (nI f))) d11 d12 d13
  have tst : tt (e2 dLt (eVar 7) (eVar 10)) e = .ret (decide (n < f)) := tt_b (e2_r (x := nI n) (y := nI f) rfl rfl lt_n)
  have at_ : ∃ k, k < T ∧ pw c A k = pw c A n ∧ eIf (tt (e2 dLt (eVar 7) (eVar 10))) (eVar 7) (e2 dAddA (eVar 10) (e2 dMod (eCB dInt1 (lCons (e2 dSub (eVar 7) (eVar 10)) lNil)) (eVar 5))) e = .ret (nI k) := by
    by_cases z : n < f
    · refine ⟨n, by omega, rfl, ?_⟩
      unfold eIf
      rw [tst, decide_eq_true z]
      rfl
    · have md : (n - f) % (T - f) < T - f := Nat.mod_lt _ (by omega)
      refine ⟨f + (n - f) % (T - f), by omega, (t.at (by omega)).symm, ?_⟩
      unfold eIf
      rw [tst, decide_eq_false z, bret, if_neg (by decide)]
      have a : e2 dSub (eVar 7) (eVar 10) e = .ret (nI (n - f)) := e2_r (x := nI n) (y := nI f) rfl rfl (nI_sub (by omega))
      have b : eCB dInt1 (lCons (e2 dSub (eVar 7) (eVar 10)) lNil) e = .ret (nI (n - f)) := cb_r (lc1 a) rfl
      have m : dMod (nI (n - f)) (nI (T - f)) = some (nI ((n - f) % (T - f))) := by
        unfold nI dMod
        dsimp only
        rw [if_pos (by omega)]
        rfl
      exact e2_r (x := nI f) rfl (e2_r b (y := nI (T - f)) rfl m) nI_add
  obtain ⟨k, hk, ek, q⟩ := at_
  refine ⟨some (.val (nI k)), ?_⟩
  have s1 : pb0 e = .ret (.nx (gE S c (fD A) d2 (some (.val (nI (T - f)))) d6 (some (.val (nI n))) d8 (some (.val (ffL (pws c A T)))) (some (.val (nI f))) (some (.val (nI k))) d12 d13)) := set_nx q
  refine (seq_nx s1).trans ?_
  let e' : Ev := gE S c (fD A) d2 (some (.val (nI (T - f)))) d6 (some (.val (nI n))) d8 (some (.val (ffL (pws c A T)))) (some (.val (nI f))) (some (.val (nI k))) d12 d13
  have a : eCall m_power (aVal (eVar 3) (aVal (eVar 4) (aVal (eVar 7) aNil))) e' = .ret (fD (pw c A n)) := call_r (aC (d := nI c) rfl (aC (d := fD A) rfl (a1 (d := nI n) rfl))) (v_power h1 h5 hA hn)
  have b : e2 dIx (eVar 9) (eVar 11) e' = .ret (fD (pw c A k)) := e2_r (x := ffL (pws c A T)) (y := nI k) rfl rfl (at_f (pws_at hk))
  exact like_nxB (aC a (a1 b)) (Sh.fig h5 (pw_val n)) (by decide) (by decide) (by rw [ek])
theorem p6 (h1 : 1 ≤ c) (h5 : c ≤ 5) (hA : Val c A) (t : Turn c A f T) : Ok (pt6 (gE S c (fD A) d2 (some (.val (nI (T - f)))) d6 d7 d8 (some (.val (ffL (pws c A T)))) (some (.val (nI f))) d11 d12 d13)) 2 fun o => ∃ e, o = .nx e ∧ ∃ y7 y11, e = gE S c (fD A) d2 (some (.val (nI (T - f)))) d6 y7 d8 (some (.val (ffL (pws c A T)))) (some (.val (nI f))) y11 d12 d13 := by
  unfold pt6 sForS
  refine (Ok.bind (m := 0) p6_list ?_).mono (Nat.le_refl _) fun _ h => h
  rintro d ⟨ms, rfl, hl, hm⟩
  obtain ⟨env', g1, y7, y11, e⟩ := for_all (tgt := gN 7) (body := sSeq pb0 pb1) (dd := nI) (fun _ (_ : Unit) env => ∃ y7 y11, env = gE S c (fD A) d2 (some (.val (nI (T - f)))) d6 y7 d8 (some (.val (ffL (pws c A T)))) (some (.val (nI f))) y11 d12 d13) (fun s _ => s) (xs := ms) (s := ()) (env := gE S c (fD A) d2 (some (.val (nI (T - f)))) d6 d7 d8 (some (.val (ffL (pws c A T)))) (some (.val (nI f))) d11 d12 d13) ⟨_, _, rfl⟩ fun i s x env hx h => by
    obtain ⟨y7, y11, rfl⟩ := h
    obtain ⟨z, q⟩ := p6_turn (S := S) (d2 := d2) (d6 := d6) (d8 := d8) (d11 := y11) (d12 := d12) (d13 := d13) h1 h5 hA t (hm x (List.mem_of_getElem? hx))
    exact ⟨_, _, rfl, q, _, _, rfl⟩
  exact Ok.of g1 ⟨env', rfl, y7, y11, e⟩
theorem p7 {X : D} : Ok (pt7 (gE S c X d2 d5 d6 d7 d8 d9 d10 d11 d12 d13)) 2 fun o => ∃ e, o = .nx e ∧ ∃ i j, (i < 9 ∧ j < 9) ∧ e = gE S c X d2 d5 d6 d7 d8 d9 d10 d11 (some (.val (nI i))) (some (.val (nI j))) := by
  have q : Ok (eCall m_law_draw (aOrc 1 (aVal (eC (.int 9)) aNil)) (gE S c X d2 d5 d6 d7 d8 d9 d10 d11 d12 d13)) 1 fun d => ∃ i, i < 9 ∧ d = nI i := ok_callr (ss := [.orc, .val (nI 9)]) rfl (ok_draw (l := 9) (by decide) (by decide))
  unfold pt7
  refine (ok_par q q).mono (Nat.le_refl _) ?_
  rintro o ⟨e, eo, x, y, ⟨i, hi, rfl⟩, ⟨j, hj, rfl⟩, ee⟩
  exact ⟨e, eo, i, j, ⟨hi, hj⟩, ee⟩
theorem p8 (h1 : 1 ≤ c) (h5 : c ≤ 5) (hA : Val c A) {i j : Nat} (hi : i < 9) (hj : j < 9) : pt8 (gE S c (fD A) d2 d5 d6 d7 d8 d9 d10 d11 (some (.val (nI i))) (some (.val (nI j)))) = .ret (.nx (gE S c (fD A) d2 d5 d6 d7 (some (.val (fD (pw c A (i + j))))) d9 d10 d11 (some (.val (nI i))) (some (.val (nI j))))) := by
  have a : eCall m_power (aVal (eVar 3) (aVal (eVar 4) (aVal (eVar 12) aNil))) (gE S c (fD A) d2 d5 d6 d7 d8 d9 d10 d11 (some (.val (nI i))) (some (.val (nI j)))) = .ret (fD (pw c A i)) := call_r (aC (d := nI c) rfl (aC (d := fD A) rfl (a1 (d := nI i) rfl))) (v_power h1 h5 hA (by omega))
  have b : eCall m_power (aVal (eVar 3) (aVal (eVar 4) (aVal (eVar 13) aNil))) (gE S c (fD A) d2 d5 d6 d7 d8 d9 d10 d11 (some (.val (nI i))) (some (.val (nI j)))) = .ret (fD (pw c A j)) := call_r (aC (d := nI c) rfl (aC (d := fD A) rfl (a1 (d := nI j) rfl))) (v_power h1 h5 hA (by omega))
  have u := v_lawup h1 h5 (pw_val (c := c) (A := A) i) (pw_val (c := c) (A := A) j)
  rw [← pw_add] at u
  exact set_nx (e2_r (call_r (aC (d := nI c) rfl (aC a (a1 b))) u) (y := .int 0) rfl rfl)
theorem p9 (h1 : 1 ≤ c) (h5 : c ≤ 5) (hA : Val c A) {i j : Nat} (hi : i < 9) (hj : j < 9) : pt9 (gE S c (fD A) d2 d5 d6 d7 (some (.val (fD (pw c A (i + j))))) d9 d10 d11 (some (.val (nI i))) (some (.val (nI j)))) = .ret (.nx (gE S c (fD A) d2 d5 d6 d7 (some (.val (fD (pw c A (i + j))))) d9 d10 d11 (some (.val (nI i))) (some (.val (nI j))))) := by
  have s : e2 dAddA (eVar 12) (eVar 13) (gE S c (fD A) d2 d5 d6 d7 (some (.val (fD (pw c A (i + j))))) d9 d10 d11 (some (.val (nI i))) (some (.val (nI j)))) = .ret (nI (i + j)) := e2_r (x := nI i) (y := nI j) rfl rfl nI_add
  have a : eCall m_power (aReo 3 [2, 0, 1] (aVal (eVar 4) (aVal (e2 dAddA (eVar 12) (eVar 13)) (aVal (eVar 3) aNil)))) (gE S c (fD A) d2 d5 d6 d7 (some (.val (fD (pw c A (i + j))))) d9 d10 d11 (some (.val (nI i))) (some (.val (nI j)))) = .ret (fD (pw c A (i + j))) := call_r (aR (aC (d := fD A) rfl (aC s (a1 (d := nI c) rfl)))) (v_power h1 h5 hA (by omega))
  exact like_nxB (aC a (a1 (d := fD (pw c A (i + j))) rfl)) (Sh.fig h5 (pw_val (i + j))) (by decide) (by decide) rfl
end
theorem ok_body26 {S : D} {e : Ev} (h : grI S e) : Ok (body26 e) 40 fun o => ∃ e, o = .nx e ∧ grI S e := by
  obtain ⟨d2, d3, d4, d5, d6, d7, d8, d9, d10, d11, d12, d13, rfl⟩ := h
  unfold body26
  refine (ok_seq (m := 39) p0 ?_).mono (by decide) fun _ h => h
  rintro e ⟨c, ⟨h1, h5⟩, rfl⟩
  refine (ok_seq (m := 11) (p1 h1 h5) ?_).mono (by decide) fun _ h => h
  rintro e ⟨A, hA, rfl⟩
  obtain ⟨f, T, t⟩ := turn h5 hA
  rw [seq_nx (p2 h1 h5 hA t), seq_nx (p3 t), seq_nx (p4 h1 h5 hA t), seq_nx (p5 h5 t)]
  refine (ok_seq (m := 2) (p6 h1 h5 hA t) ?_).mono (by decide) fun _ h => h
  rintro e ⟨y7, y11, rfl⟩
  refine (ok_seq (m := 0) p7 ?_).mono (by decide) fun _ h => h
  rintro e ⟨i, j, ⟨hi, hj⟩, rfl⟩
  rw [seq_nx (p8 h1 h5 hA hi hj), p9 h1 h5 hA hi hj]
  exact Ok.ret ⟨_, rfl, _, _, _, _, _, _, _, _, _, _, _, _, rfl⟩
theorem rest26_ok : RestOk 12 rest26 := by
  intro ns hn
  have l0 : eCB dMin2 (lCons (eC (.int 3)) (lCons (eCB dLenA (lCons (eVar 0) lNil)) lNil)) (env0 12 ns) = .ret (nI (min 3 ns.length)) := by
    have a : eCB dLenA (lCons (eVar 0) lNil) (env0 12 ns) = .ret (nI ns.length) := by
      show Tr.ret (PyData.int ((ns.map PyData.int).length : Nat)) = _
      rw [List.length_map]
      rfl
    refine cb_r (lc2 (x := nI 3) (y := nI ns.length) rfl a) ?_
    show some (PyData.int (if (ns.length : Int) < 3 then (ns.length : Int) else 3)) = _
    unfold nI
    congr 2
    split <;> omega
  have l1 : e2 dAddA (eC (.int 1)) (eCB dMin2 (lCons (eC (.int 3)) (lCons (eCB dLenA (lCons (eVar 0) lNil)) lNil))) (env0 12 ns) = .ret (nI (1 + min 3 ns.length)) := e2_r (x := nI 1) rfl l0 nI_add
  have key : Ok (rest26 (env0 12 ns)) (40 * (1 + min 3 ns.length)) fun o => o = .rv (.bool true) := by
    unfold rest26
    have q := ok_for (tgt := gN 2) (body := body26) (I := grI (scrD (ns.map PyData.int))) (k := 40) ((List.range (1 + min 3 ns.length)).map nI) (env0 12 ns) ⟨none, none, none, none, none, none, none, none, none, none, none, none, rfl⟩ fun d e h => by
      obtain ⟨d2, d3, d4, d5, d6, d7, d8, d9, d10, d11, d12, d13, rfl⟩ := h
      exact ⟨_, rfl, ok_body26 ⟨_, _, _, _, _, _, _, _, _, _, _, _, rfl⟩⟩
    rw [← forR_n (f := e2 dAddA (eC (.int 1)) (eCB dMin2 (lCons (eC (.int 3)) (lCons (eCB dLenA (lCons (eVar 0) lNil)) lNil)))) l1 (by omega), List.length_map, List.length_range] at q
    exact (ok_seq (m := 0) q fun e he => Ok.of (a := .rv (.bool true)) rfl rfl).mono (Nat.le_refl _) fun _ h => h
  refine ⟨40 * (1 + min 3 ns.length), by omega, ?_⟩
  exact Tr.All_mono (key.run _ (Nat.le_refl _)) fun o c h => h.2
end FL
end
section
set_option linter.all false
set_option maxRecDepth 100000
namespace FL
open PySem PySem.Spec PyProof.Rows L2 DL
def m_power_leftovers : List Slot → Tr D := fnF 3 .v (sSeq (sExpr (eCall m_need_power (aVal (eVar 0) (aVal (eVar 1) (aVal (eVar 2) aNil))))) (sRet (e2 dIx (eCall m_power_and_leftovers (aVal (eVar 0) (aVal (eVar 1) (aVal (eVar 2) aNil)))) (eC (.int 1)))))
def m_power_rings : List Slot → Tr D := fnF 5 .v (sSeq (sExpr (eCall m_need_power (aVal (eVar 0) (aVal (eVar 1) (aVal (eVar 2) aNil))))) (sSeq (sAsg (eCall m_power_and_leftovers (aVal (eVar 0) (aVal (eVar 1) (aVal (eVar 2) aNil)))) (gT 2 (gsCons (gN 3) (gsCons (gN 4) gsNil)))) (sRet (e2 dAddA (eCall m_many_rings (aVal (eVar 0) (aVal (eVar 3) aNil))) (eVar 4)))))
def m_law_kinds : List Slot → Tr D := fnF 2 .v (sRet (eCompR (lCons (eCB dLenA (lCons (eVar 0) lNil)) lNil) (gN 1) (tt (e2 (dIn true) (e2 dIx (eVar 0) (eVar 1)) (eSl dSlA (eVar 0) oNone (oSome (eVar 1))))) (e2 dIx (eVar 0) (eVar 1)) [1]))
def m_law_rings : List Slot → Tr D := fnF 7 .v (sSeq (sSet 2 (eCB dList (lCons (eVar 1) lNil))) (sSeq (sForR (lCons (eVar 0) lNil) (gN 3) (sSeq (sAsg (eTup (lCons (e2 dIx (eVar 2) (e2 dAddA (eVar 0) (eVar 3))) (lCons (e2 dIx (eVar 2) (eVar 3)) lNil))) (gT 2 (gsCons (gN 4) (gsCons (gN 5) gsNil)))) (sSet 2 (eCompS (eVar 2) (gN 6) fYes (eIf (tt (e2 dEq (eVar 6) (eVar 4))) (eVar 5) (eVar 6)) [6])))) (sRet (eCB dLenA (lCons (eCall m_law_kinds (aVal (eSl dSlA (eVar 2) oNone (oSome (eVar 0))) aNil)) lNil)))))
def m_law_both : List Slot → Tr D := fnF 5 .v (sSeq (sAsg (eCall m_law_upon (aVal (eVar 0) (aVal (e2 dIx (eVar 1) (eC (.int 0))) (aVal (e2 dIx (eVar 2) (eC (.int 0))) aNil)))) (gT 2 (gsCons (gN 3) (gsCons (gN 4) gsNil)))) (sRet (eTup (lCons (eVar 3) (lCons (e2 dAddA (e2 dAddA (e2 dIx (eVar 1) (eC (.int 1))) (e2 dIx (eVar 2) (eC (.int 1)))) (eVar 4)) lNil)))))
def m_law_times : List Slot → Tr D := fnF 6 .v (sSeq (sPar false false 4 5 (eTup (lCons (eCall m_law_straight (aVal (eVar 0) aNil)) (lCons (eC (.int 0)) lNil))) (eTup (lCons (eVar 1) (lCons (eC (.int 0)) lNil)))) (sSeq (sForR (lCons (eC (.int 31)) lNil) (gN 3) (sSeq (sIf (tt (e2 dEq (e2 dMod (eCB dInt1 (lCons (eVar 2) lNil)) (eC (.int 2))) (eC (.int 1)))) (sSet 4 (eCall m_law_both (aVal (eVar 0) (aVal (eVar 4) (aVal (eVar 5) aNil))))) sNext) (sPar false false 5 2 (eCall m_law_both (aVal (eVar 0) (aVal (eVar 5) (aVal (eVar 5) aNil)))) (e2 dDiv (eVar 2) (eC (.int 2)))))) (sRet (eVar 4))))
end FL
end
section
set_option linter.all false
set_option maxRecDepth 100000
namespace FL
open PySem PySem.Spec PyProof.Rows L2 DL FM
/-! ### great powers: what is left over, rings -/
theorem v_power_leftovers {c n : Nat} {A : List Nat} (h1 : 1 ≤ c) (h5 : c ≤ 5) (hA : Val c A) (hn : n ≤ 1000000000) : m_power_leftovers [.val (nI c), .val (fD A), .val (nI n)] = .ret (nI (lw c A n)) := by
  obtain ⟨f, T, t⟩ := turn h5 hA
  have n1 : sExpr (eCall m_need_power (aVal (eVar 0) (aVal (eVar 1) (aVal (eVar 2) aNil)))) (startE 3 [.val (nI c), .val (fD A), .val (nI n)]) = .ret (.nx (startE 3 [.val (nI c), .val (fD A), .val (nI n)])) := expr_nx (call_r (aC (d := nI c) rfl (aC (d := fD A) rfl (a1 (d := nI n) rfl))) (v_need_power h1 h5 hA hn))
  have p : eCall m_power_and_leftovers (aVal (eVar 0) (aVal (eVar 1) (aVal (eVar 2) aNil))) (startE 3 [.val (nI c), .val (fD A), .val (nI n)]) = .ret (.tuple [fD (pw c A n), nI (lw c A n)]) := call_r (aC (d := nI c) rfl (aC (d := fD A) rfl (a1 (d := nI n) rfl))) (v_power_left h1 h5 hA hn t)
  unfold m_power_leftovers
  exact fn_v ((seq_nx n1).trans (ret_rv (e2_r p (y := .int 1) rfl rfl)))
theorem v_power_rings {c n : Nat} {A : List Nat} (h1 : 1 ≤ c) (h5 : c ≤ 5) (hA : Val c A) (hn : n ≤ 1000000000) : m_power_rings [.val (nI c), .val (fD A), .val (nI n)] = .ret (nI (ringsL c (pw c A n) + lw c A n)) := by
  obtain ⟨f, T, t⟩ := turn h5 hA
  have n1 : sExpr (eCall m_need_power (aVal (eVar 0) (aVal (eVar 1) (aVal (eVar 2) aNil)))) (startE 5 [.val (nI c), .val (fD A), .val (nI n)]) = .ret (.nx (startE 5 [.val (nI c), .val (fD A), .val (nI n)])) := expr_nx (call_r (aC (d := nI c) rfl (aC (d := fD A) rfl (a1 (d := nI n) rfl))) (v_need_power h1 h5 hA hn))
  have p : eCall m_power_and_leftovers (aVal (eVar 0) (aVal (eVar 1) (aVal (eVar 2) aNil))) (startE 5 [.val (nI c), .val (fD A), .val (nI n)]) = .ret (.tuple [fD (pw c A n), nI (lw c A n)]) := call_r (aC (d := nI c) rfl (aC (d := fD A) rfl (a1 (d := nI n) rfl))) (v_power_left h1 h5 hA hn t)
  unfold m_power_rings
  refine fn_v ((seq_nx n1).trans ((seq_nx (asg_two (i := 3) (j := 4) p)).trans (ret_rv ?_)))
  exact e2_r (call_r (aC (d := nI c) rfl (a1 (d := fD (pw c A n)) rfl)) (v_many_rings h1 h5 (pw_val n))) (y := nI (lw c A n)) rfl nI_add
theorem v_law_kinds {xs : List Nat} (hl : xs.length ≤ 900) : m_law_kinds [.val (lD xs)] = .ret (.list ((firsts xs).map fun i => nI (xs.getD i 0))) := by
  have ln : eCB dLenA (lCons (eVar 0) lNil) (startE 2 [.val (lD xs)]) = .ret (nI xs.length) := by
    show Tr.ofOpt (some (PyData.int ((nL xs).length : Nat))) = _
    rw [nL_len]
    rfl
  have q : eCompR (lCons (eCB dLenA (lCons (eVar 0) lNil)) lNil) (gN 1) (tt (e2 (dIn true) (e2 dIx (eVar 0) (eVar 1)) (eSl dSlA (eVar 0) oNone (oSome (eVar 1))))) (e2 dIx (eVar 0) (eVar 1)) [1] (startE 2 [.val (lD xs)]) = .ret (.list ((firsts xs).map fun i => nI (xs.getD i 0))) := by
    rw [compR_eq (lc1 ln) (rngOf_n (n := xs.length) (by omega)), rng_n]
    let f5 : Ev := wipeE (startE 2 [.val (lD xs)]) [1]
    refine end_filter (tgt := gN 1) (env := f5) (dd := nI) (g := fun i => nI (xs.getD i 0)) (p := fun i => decide (xs.getD i 0 ∉ xs.take i)) (xs := List.range xs.length) (by rw [List.length_range]; omega) fun x hx => ⟨f5.set 1 (some (.val (nI x))), rfl, ?_, fun _ => ?_⟩
    · have hx := List.mem_range.mp hx
      have a : e2 dIx (eVar 0) (eVar 1) (f5.set 1 (some (.val (nI x)))) = .ret (nI (xs.getD x 0)) := e2_r (x := lD xs) (y := nI x) rfl rfl (atL hx)
      have b : eSl dSlA (eVar 0) oNone (oSome (eVar 1)) (f5.set 1 (some (.val (nI x)))) = .ret (lD (xs.take x)) := by
        show Tr.ofOpt (some (PyData.list (DL.cutD (nL xs) none (some (x : Int))))) = _
        rw [cut_take]
        rfl
      refine tt_b (e2_r a b ?_)
      rw [dIn_n]
      by_cases h : xs.getD x 0 ∈ xs.take x <;> simp [h]
    · have hx := List.mem_range.mp hx
      exact e2_r (x := lD xs) (y := nI x) rfl rfl (atL hx)
  unfold m_law_kinds
  exact fn_v (ret_rv q)
abbrev bRng : FS := sSeq (sAsg (eTup (lCons (e2 dIx (eVar 2) (e2 dAddA (eVar 0) (eVar 3))) (lCons (e2 dIx (eVar 2) (eVar 3)) lNil))) (gT 2 (gsCons (gN 4) (gsCons (gN 5) gsNil)))) (sSet 2 (eCompS (eVar 2) (gN 6) fYes (eIf (tt (e2 dEq (eVar 6) (eVar 4))) (eVar 5) (eVar 6)) [6]))
theorem v_law_rings {c : Nat} (h5 : c ≤ 5) {A : List Nat} (hA : Val c A) : m_law_rings [.val (nI c), .val (fD A)] = .ret (nI (ringsL c A)) := by
  have lA := hA.len
  let e1 : Ev := [some (.val (nI c)), some (.val (fD A)), some (.val (lD A)), none, none, none, none]
  have s1 : sSet 2 (eCB dList (lCons (eVar 1) lNil)) (startE 7 [.val (nI c), .val (fD A)]) = .ret (.nx e1) := rfl
  have key : ∀ (i : Nat) (L : List Nat) (x : Nat) (env : Ev), (List.range c)[i]? = some x → (∃ d3 d4 d5, env = [some (.val (nI c)), some (.val (fD A)), some (.val (lD L)), d3, d4, d5, none] ∧ L.length = 2 * c) →
      ∃ env1 env2, gN 3 (nI x) env = some env1 ∧ bRng env1 = .ret (.nx env2) ∧ ∃ d3 d4 d5, env2 = [some (.val (nI c)), some (.val (fD A)), some (.val (lD (merN L (L.getD x 0) (L.getD (c + x) 0)))), d3, d4, d5, none] ∧ (merN L (L.getD x 0) (L.getD (c + x) 0)).length = 2 * c := by
    rintro i L x env hx ⟨d3, d4, d5, e, hL⟩
    have hxc := rngx hx
    subst e
    let f0 : Ev := [some (.val (nI c)), some (.val (fD A)), some (.val (lD L)), some (.val (nI x)), d4, d5, none]
    let f1 : Ev := [some (.val (nI c)), some (.val (fD A)), some (.val (lD L)), some (.val (nI x)), some (.val (nI (L.getD (c + x) 0))), some (.val (nI (L.getD x 0))), none]
    have t1 : eTup (lCons (e2 dIx (eVar 2) (e2 dAddA (eVar 0) (eVar 3))) (lCons (e2 dIx (eVar 2) (eVar 3)) lNil)) f0 = .ret (.tuple [nI (L.getD (c + x) 0), nI (L.getD x 0)]) :=
      tup2 (e2_r (x := lD L) rfl (e2_r (x := nI c) (y := nI x) rfl rfl nI_add) (atL (by omega))) (e2_r (x := lD L) (y := nI x) rfl rfl (atL (by omega)))
    have t2 := asg_two (i := 4) (j := 5) t1
    refine ⟨f0, [some (.val (nI c)), some (.val (fD A)), some (.val (lD (merN L (L.getD x 0) (L.getD (c + x) 0)))), some (.val (nI x)), some (.val (nI (L.getD (c + x) 0))), some (.val (nI (L.getD x 0))), none], rfl, ?_, _, _, _, rfl, by rw [merN_len, hL]⟩
    refine (seq_nx t2).trans ?_
    have t4 : eCompS (eVar 2) (gN 6) fYes (eIf (tt (e2 dEq (eVar 6) (eVar 4))) (eVar 5) (eVar 6)) [6] f1 = .ret (lD (merN L (L.getD x 0) (L.getD (c + x) 0))) :=
      mer_comp (env := f1) (i := 6) (j := 4) (k := 5) (a := L.getD x 0) (b := L.getD (c + x) 0) (xs := L) (by omega) (by decide) (by decide) (show 6 < 6 + 1 by decide) rfl rfl
    show sSet 2 _ f1 = _
    rw [set_nx t4]
    rfl
  obtain ⟨env', g1, d3, d4, d5, e, hL⟩ := for_all (tgt := gN 3) (dd := nI) _ (fun L i => merN L (L.getD i 0) (L.getD (c + i) 0)) (xs := List.range c) (s := A) (env := e1) ⟨none, none, none, rfl, lA⟩ key
  have e : env' = [some (.val (nI c)), some (.val (fD A)), some (.val (lD (clR c A))), d3, d4, d5, none] := e
  have s2 : sForR (lCons (eVar 0) lNil) (gN 3) bRng e1 = .ret (.nx env') := (forR_n (n := c) rfl (by omega)).trans g1
  subst e
  have lt : ((clR c A).take c).length ≤ 900 := by rw [List.length_take]; omega
  have sl : eSl dSlA (eVar 2) oNone (oSome (eVar 0)) [some (.val (nI c)), some (.val (fD A)), some (.val (lD (clR c A))), d3, d4, d5, none] = .ret (lD ((clR c A).take c)) := by
    show Tr.ofOpt (some (PyData.list (DL.cutD (nL (clR c A)) none (some (c : Int))))) = _
    rw [cut_take]
    rfl
  have kd : eCall m_law_kinds (aVal (eSl dSlA (eVar 2) oNone (oSome (eVar 0))) aNil) [some (.val (nI c)), some (.val (fD A)), some (.val (lD (clR c A))), d3, d4, d5, none] = .ret (.list ((firsts ((clR c A).take c)).map fun i => nI (((clR c A).take c).getD i 0))) := call_r (a1 sl) (v_law_kinds lt)
  unfold m_law_rings
  refine fn_v ((seq_nx (env := startE 7 [.val (nI c), .val (fD A)]) s1).trans ((seq_nx s2).trans (ret_rv (cb_r (lc1 kd) ?_))))
  show some (PyData.int (((firsts ((clR c A).take c)).map fun i => nI (((clR c A).take c).getD i 0)).length : Nat)) = _
  rw [List.length_map, firsts_len, (clR_take hA).2]
  rfl
/-- a power and what is left over of it -/
def pD (c : Nat) (A : List Nat) (n : Nat) : D := .tuple [fD (pw c A n), nI (lw c A n)]
theorem v_law_both {c : Nat} {A : List Nat} (h1 : 1 ≤ c) (h5 : c ≤ 5) (a b : Nat) : m_law_both [.val (nI c), .val (pD c A a), .val (pD c A b)] = .ret (pD c A (a + b)) := by
  have u := v_lawup h1 h5 (pw_val (c := c) (A := A) a) (pw_val (c := c) (A := A) b)
  have x : e2 dIx (eVar 1) (eC (.int 0)) (startE 5 [.val (nI c), .val (pD c A a), .val (pD c A b)]) = .ret (fD (pw c A a)) := e2_r (x := pD c A a) (y := .int 0) rfl rfl rfl
  have y : e2 dIx (eVar 2) (eC (.int 0)) (startE 5 [.val (nI c), .val (pD c A a), .val (pD c A b)]) = .ret (fD (pw c A b)) := e2_r (x := pD c A b) (y := .int 0) rfl rfl rfl
  have s1 := asg_two (i := 3) (j := 4) (call_r (F := m_law_upon) (aC (d := nI c) (f := eVar 0) rfl (aC x (a1 y))) u)
  let e1 : Ev := [some (.val (nI c)), some (.val (pD c A a)), some (.val (pD c A b)), some (.val (fD (uponL c (pw c A a) (pw c A b)))), some (.val (nI (leftL c (pw c A a) (pw c A b))))]
  have l1 : e2 dIx (eVar 1) (eC (.int 1)) e1 = .ret (nI (lw c A a)) := e2_r (x := pD c A a) (y := .int 1) rfl rfl rfl
  have l2 : e2 dIx (eVar 2) (eC (.int 1)) e1 = .ret (nI (lw c A b)) := e2_r (x := pD c A b) (y := .int 1) rfl rfl rfl
  have l3 : e2 dAddA (e2 dAddA (e2 dIx (eVar 1) (eC (.int 1))) (e2 dIx (eVar 2) (eC (.int 1)))) (eVar 4) e1 = .ret (nI (lw c A a + lw c A b + leftL c (pw c A a) (pw c A b))) := e2_r (e2_r l1 l2 nI_add) (y := nI (leftL c (pw c A a) (pw c A b))) rfl nI_add
  unfold m_law_both
  refine fn_v ((seq_nx s1).trans (ret_rv ?_))
  unfold pD
  rw [pw_add, lw_add]
  exact tup2 (x := fD (uponL c (pw c A a) (pw c A b))) rfl l3
abbrev bTim : FS := sSeq (sIf (tt (e2 dEq (e2 dMod (eCB dInt1 (lCons (eVar 2) lNil)) (eC (.int 2))) (eC (.int 1)))) (sSet 4 (eCall m_law_both (aVal (eVar 0) (aVal (eVar 4) (aVal (eVar 5) aNil))))) sNext) (sPar false false 5 2 (eCall m_law_both (aVal (eVar 0) (aVal (eVar 5) (aVal (eVar 5) aNil)))) (e2 dDiv (eVar 2) (eC (.int 2))))
def tE (c : Nat) (A : List Nat) (n i : Nat) (d3 : Option Slot) : Ev := [some (.val (nI c)), some (.val (fD A)), some (.val (nI (n / 2 ^ i))), d3, some (.val (pD c A (n % 2 ^ i))), some (.val (pD c A (2 ^ i)))]
theorem tim_step {c : Nat} {A : List Nat} (h1 : 1 ≤ c) (h5 : c ≤ 5) {n i : Nat} {d3 : Option Slot} : bTim (tE c A n i d3) = .ret (.nx (tE c A n (i + 1) d3)) := by
  have p2 : 2 ^ (i + 1) = 2 ^ i + 2 ^ i := by rw [Nat.pow_succ]; omega
  have hb : n / 2 ^ (i + 1) = n / 2 ^ i / 2 := by rw [Nat.pow_succ, Nat.div_div_eq_div_mul]
  have hm : n % 2 ^ (i + 1) = n % 2 ^ i + 2 ^ i * (n / 2 ^ i % 2) := by rw [Nat.pow_succ, Nat.mod_mul]
  have md : dMod (nI (n / 2 ^ i)) (nI 2) = some (nI (n / 2 ^ i % 2)) := by
    generalize n / 2 ^ i = q
    unfold nI dMod
    dsimp only
    rw [if_pos (by omega)]
    rfl
  have dv : dDiv (nI (n / 2 ^ i)) (nI 2) = some (nI (n / 2 ^ i / 2)) := by
    generalize n / 2 ^ i = q
    unfold nI dDiv
    dsimp only
    rw [if_pos (by omega)]
    rfl
  have tst : tt (e2 dEq (e2 dMod (eCB dInt1 (lCons (eVar 2) lNil)) (eC (.int 2))) (eC (.int 1))) (tE c A n i d3) = .ret (decide (n / 2 ^ i % 2 = 1)) := tt_b (e2_r (e2_r (cb_r (lc1 (d := nI (n / 2 ^ i)) rfl) rfl) (y := nI 2) rfl md) (y := nI 1) rfl nI_eq)
  have base := v_law_both (A := A) h1 h5 (2 ^ i) (2 ^ i)
  rw [← p2] at base
  have half : ∀ F : D, sPar false false 5 2 (eCall m_law_both (aVal (eVar 0) (aVal (eVar 5) (aVal (eVar 5) aNil)))) (e2 dDiv (eVar 2) (eC (.int 2))) [some (.val (nI c)), some (.val (fD A)), some (.val (nI (n / 2 ^ i))), d3, some (.val F), some (.val (pD c A (2 ^ i)))] = .ret (.nx [some (.val (nI c)), some (.val (fD A)), some (.val (nI (n / 2 ^ (i + 1)))), d3, some (.val F), some (.val (pD c A (2 ^ (i + 1))))]) := fun F => by
    have a : eCall m_law_both (aVal (eVar 0) (aVal (eVar 5) (aVal (eVar 5) aNil))) [some (.val (nI c)), some (.val (fD A)), some (.val (nI (n / 2 ^ i))), d3, some (.val F), some (.val (pD c A (2 ^ i)))] = .ret (pD c A (2 ^ (i + 1))) := call_r (aC (d := nI c) rfl (aC (d := pD c A (2 ^ i)) rfl (a1 (d := pD c A (2 ^ i)) rfl))) base
    have b : e2 dDiv (eVar 2) (eC (.int 2)) [some (.val (nI c)), some (.val (fD A)), some (.val (nI (n / 2 ^ i))), d3, some (.val F), some (.val (pD c A (2 ^ i)))] = .ret (nI (n / 2 ^ (i + 1))) := by
      rw [hb]
      exact e2_r (x := nI (n / 2 ^ i)) (y := nI 2) rfl rfl dv
    unfold sPar
    rw [a, bret, b, bret]
    rfl
  by_cases z : n / 2 ^ i % 2 = 1
  · have e : n % 2 ^ (i + 1) = n % 2 ^ i + 2 ^ i := by rw [hm, z, Nat.mul_one]
    have s1 : sIf (tt (e2 dEq (e2 dMod (eCB dInt1 (lCons (eVar 2) lNil)) (eC (.int 2))) (eC (.int 1)))) (sSet 4 (eCall m_law_both (aVal (eVar 0) (aVal (eVar 4) (aVal (eVar 5) aNil))))) sNext (tE c A n i d3) = .ret (.nx [some (.val (nI c)), some (.val (fD A)), some (.val (nI (n / 2 ^ i))), d3, some (.val (pD c A (n % 2 ^ (i + 1)))), some (.val (pD c A (2 ^ i)))]) := by
      unfold sIf
      rw [tst, decide_eq_true z, bret, if_pos rfl]
      have u := v_law_both (A := A) h1 h5 (n % 2 ^ i) (2 ^ i)
      rw [← e] at u
      exact set_nx (call_r (aC (d := nI c) rfl (aC (d := pD c A (n % 2 ^ i)) rfl (a1 (d := pD c A (2 ^ i)) rfl))) u)
    exact (seq_nx s1).trans (half _)
  · have z0 : n / 2 ^ i % 2 = 0 := by omega
    have e : n % 2 ^ (i + 1) = n % 2 ^ i := by rw [hm, z0, Nat.mul_zero, Nat.add_zero]
    have s1 : sIf (tt (e2 dEq (e2 dMod (eCB dInt1 (lCons (eVar 2) lNil)) (eC (.int 2))) (eC (.int 1)))) (sSet 4 (eCall m_law_both (aVal (eVar 0) (aVal (eVar 4) (aVal (eVar 5) aNil))))) sNext (tE c A n i d3) = .ret (.nx (tE c A n i d3)) := by
      unfold sIf
      rw [tst, decide_eq_false z]
      rfl
    refine (seq_nx s1).trans ((half _).trans ?_)
    unfold tE
    rw [e]
theorem v_law_times {c n : Nat} {A : List Nat} (h1 : 1 ≤ c) (h5 : c ≤ 5) (hA : Val c A) (hn : n < 2 ^ 31) : m_law_times [.val (nI c), .val (fD A), .val (nI n)] = .ret (pD c A n) := by
  have st := (v_straight h1 h5).2
  have a : eTup (lCons (eCall m_law_straight (aVal (eVar 0) aNil)) (lCons (eC (.int 0)) lNil)) (startE 6 [.val (nI c), .val (fD A), .val (nI n)]) = .ret (pD c A 0) := tup2 (y := nI 0) (call_r (a1 (d := nI c) rfl) st) rfl
  have one : pD c A 1 = .tuple [fD A, nI 0] := by
    unfold pD
    have e1 : pw c A 1 = A := (stL_upon hA).1
    have e2 : lw c A 1 = 0 := by
      show 0 + leftL c (stL c) A = 0
      rw [(stL_upon hA).2]
    rw [e1, e2]
  have b : eTup (lCons (eVar 1) (lCons (eC (.int 0)) lNil)) (startE 6 [.val (nI c), .val (fD A), .val (nI n)]) = .ret (pD c A 1) := by
    rw [one]
    exact tup2 (x := fD A) (y := nI 0) rfl rfl
  have s1 : sPar false false 4 5 (eTup (lCons (eCall m_law_straight (aVal (eVar 0) aNil)) (lCons (eC (.int 0)) lNil))) (eTup (lCons (eVar 1) (lCons (eC (.int 0)) lNil))) (startE 6 [.val (nI c), .val (fD A), .val (nI n)]) = .ret (.nx (tE c A n 0 none)) := by
    unfold sPar
    rw [a, bret, b, bret]
    unfold tE
    rw [Nat.pow_zero, Nat.div_one, Nat.mod_one]
    rfl
  obtain ⟨env', g1, d3, e⟩ := for_all (tgt := gN 3) (body := bTim) (dd := nI) (fun i (_ : Unit) env => ∃ d3, env = tE c A n i d3) (fun s _ => s) (xs := List.range 31) (s := ()) (env := tE c A n 0 none) ⟨none, rfl⟩ fun i s x env hx h => by
    obtain ⟨d3, rfl⟩ := h
    exact ⟨tE c A n i (some (.val (nI x))), tE c A n (i + 1) (some (.val (nI x))), rfl, tim_step h1 h5, _, rfl⟩
  have s2 : sForR (lCons (eC (.int 31)) lNil) (gN 3) bTim (tE c A n 0 none) = .ret (.nx env') := (forR_n (n := 31) rfl (by decide)).trans g1
  rw [List.length_range] at e
  subst e
  have s3 : sRet (eVar 4) (tE c A n 31 d3) = .ret (.rv (pD c A n)) := by
    have : n % 2 ^ 31 = n := Nat.mod_eq_of_lt hn
    show Tr.ret (Out.rv (pD c A (n % 2 ^ 31))) = _
    rw [this]
  unfold m_law_times
  exact fn_v ((seq_nx s1).trans ((seq_nx s2).trans s3))
end FL
end
section
set_option linter.all false
set_option maxRecDepth 100000
namespace FL
open PySem PySem.Spec PyProof.Rows L2 DL FM
/-! ### the law of great powers: its statements -/
def ra0 : FS := (sSetO 8 (eLst (lCons (eCall m_power (aVal (eVar 3) (aVal (eVar 4) (aVal (eVar 5) aNil)))) (lCons (eCall m_power_leftovers (aVal (eVar 3) (aVal (eVar 4) (aVal (eVar 5) aNil)))) lNil))))
def ra1 : FS := (sApp 8 (eCall m_power_rings (aVal (eVar 3) (aVal (eVar 4) (aVal (eVar 5) aNil)))))
def ra2 : FS := (fun env => (sSeq (sIf (bNot (tt (eCall m_law_like (aVal (eVar 8) (aVal (eLst (lCons (eVar 6) (lCons (eVar 7) (lCons (e2 dAddA (eCall m_law_rings (aVal (eVar 3) (aVal (eVar 6) aNil))) (eVar 7)) lNil)))) aNil))))) (sRet (eC (.bool false))) sNext) (sSeq (sAsg (eCall m_law_upon (aVal (eVar 3) (aVal (eVar 6) (aVal (eVar 4) aNil)))) (gT 2 (gsCons (gN 6) (gsCons (gN 9) gsNil)))) (sSet 7 (e2 dAddA (eVar 7) (eVar 9))))) (frz 8 env))
def rb0 : FS := (sAsg (eCall m_law_times (aVal (eVar 3) (aVal (eVar 4) (aVal (eVar 5) aNil)))) (gT 2 (gsCons (gN 10) (gsCons (gN 7) gsNil))))
def rb1 : FS := (sSetO 8 (eLst (lCons (eCall m_power (aVal (eVar 3) (aVal (eVar 4) (aVal (eVar 5) aNil)))) (lCons (eCall m_power_leftovers (aVal (eVar 3) (aVal (eVar 4) (aVal (eVar 5) aNil)))) lNil))))
def rb2 : FS := (sApp 8 (eCall m_power_rings (aReo 3 [2, 1, 0] (aVal (eVar 5) (aVal (eVar 4) (aVal (eVar 3) aNil))))))
def rb3 : FS := (fun env => (sIf (bNot (tt (eCall m_law_like (aVal (eVar 8) (aVal (eLst (lCons (eVar 10) (lCons (eVar 7) (lCons (e2 dAddA (eCall m_law_rings (aVal (eVar 3) (aVal (eVar 10) aNil))) (eVar 7)) lNil)))) aNil))))) (sRet (eC (.bool false))) sNext) (frz 8 env))
def rt0 : FS := (sSet 3 (e2 dAddA (eC (.int 1)) (eCall m_law_draw (aOrc 1 (aVal (eC (.int 5)) aNil)))))
def rt1 : FS := (sSet 4 (eCall m_law_some_figure (aOrc 1 (aVal (eVar 3) aNil))))
def rt2 : FS := (sIf (tt (e2 dEq (eCall m_law_draw (aOrc 1 (aVal (eC (.int 2)) aNil))) (eC (.int 0)))) (sSet 4 (e2 dIx (eCall m_law_figure (aVal (eVar 3) (aVal (eCall m_law_row (aOrc 1 (aVal (eVar 3) (aVal (eCall m_law_some_family (aOrc 1 aNil)) (aVal (eC (.int 9)) aNil))))) aNil))) (eC (.int 0)))) sNext)
def rt3 : FS := (sPar false false 6 7 (eCall m_law_straight (aVal (eVar 3) aNil)) (eC (.int 0)))
def rt4 : FS := (sForR (lCons (eC (.int 9)) lNil) (gN 5) (sSeq ra0 (sSeq ra1 ra2)))
def rt5 : FS := (sForS (eTup (lCons (eCall m_law_draw (aOrc 1 (aVal (e2 dAddA (e2 dPow (eC (.int 10)) (eC (.int 9))) (eC (.int 1))) aNil))) (lCons (e2 dPow (eC (.int 10)) (eC (.int 9))) (lCons (eCall m_law_draw (aOrc 1 (aVal (eC (.int 200)) aNil))) lNil)))) (gN 5) (sSeq rb0 (sSeq rb1 (sSeq rb2 rb3))))
def body27 : FS := sSeq rt0 (sSeq rt1 (sSeq rt2 (sSeq rt3 (sSeq rt4 (rt5)))))
def rest27 : FS := sSeq (sForR (lCons (e2 dAddA (eC (.int 1)) (eCB dMin2 (lCons (eC (.int 3)) (lCons (eCB dLenA (lCons (eVar 0) lNil)) lNil)))) lNil) (gN 2) body27) (sRet (eC (.bool true)))
theorem Sh.big {n : Nat} (h : n < 2 ^ 100) : Sh (nI n) 0 1921 := by
  have lg : ((n : Int)).natAbs.log2 < 1920 := by
    rw [Int.natAbs_natCast]
    by_cases z : n = 0
    · subst z
      decide
    · exact Nat.lt_trans ((Nat.log2_lt z).mpr h) (by decide)
  have e : (nI n).shown = ((toString ((n : Nat) : Int) : String) : Str) := PyData.shown_int _
  refine ⟨?_, decide_eq_true lg, rfl, Nat.le_refl _, ?_⟩
  · rw [e]
    unfold PyData.strOk
    rw [← Array.all_toList]
    refine List.all_eq_true.mpr fun k hk => decide_eq_true (Classical.byContradiction fun no => ?_)
    exact PyProof.Rows.int_text_free' k ⟨by omega, .inr (by omega)⟩ _ hk
  · rw [e]
    exact PyProof.Rows.int_text_len_1921 lg
def hE (S : D) (c : Nat) (X : D) (d2 d5 d6 d7 d8 d9 d10 : Option Slot) : Ev := [some (.val S), some .orc, d2, some (.val (nI c)), some (.val X), d5, d6, d7, d8, d9, d10]
def hrI (S : D) (e : Ev) : Prop := ∃ d2 d3 d4 d5 d6 d7 d8 d9 d10, e = [some (.val S), some .orc, d2, d3, d4, d5, d6, d7, d8, d9, d10]
def trD (c : Nat) (A : List Nat) (n : Nat) : D := .list [fD (pw c A n), nI (lw c A n), nI (ringsL c (pw c A n) + lw c A n)]
theorem tr_in {c n : Nat} {A : List Nat} (h5 : c ≤ 5) (hn : n ≤ 1000000000) : Sh (trD c A n) 2 6000 := by
  have l := lw_le (c := c) (A := A) (fun X Y => left_le X Y) n
  have r := rings_le (pw_val (c := c) (A := A) n)
  have b : lw c A n ≤ 20 * 1000000000 := Nat.le_trans l (Nat.mul_le_mul (by omega) hn)
  refine (Sh.list (xs := [fD (pw c A n), nI (lw c A n), nI (ringsL c (pw c A n) + lw c A n)]) (k := 1) (w := 1921) (n := 3) ?_ (Nat.le_refl 3)).mono (Nat.le_refl _) (by decide)
  intro x hx
  rcases List.mem_cons.mp hx with rfl | hx
  · exact (Sh.fig h5 (pw_val n)).mono (Nat.le_refl _) (by decide)
  · rcases List.mem_cons.mp hx with rfl | hx
    · exact (Sh.big (by omega)).mono (by decide) (Nat.le_refl _)
    · rcases List.mem_cons.mp hx with rfl | hx
      · exact (Sh.big (by omega)).mono (by decide) (Nat.le_refl _)
      · cases hx
section
variable {S : D} {c n : Nat} {A : List Nat} {d2 d3 d4 d5 d6 d7 d8 d9 d10 : Option Slot}
theorem r0 : Ok (rt0 [some (.val S), some .orc, d2, d3, d4, d5, d6, d7, d8, d9, d10]) 1 fun o => ∃ e, o = .nx e ∧ ∃ c, (1 ≤ c ∧ c ≤ 5) ∧ e = [some (.val S), some .orc, d2, some (.val (nI c)), d4, d5, d6, d7, d8, d9, d10] := by
  have q : Ok (eCall m_law_draw (aOrc 1 (aVal (eC (.int 5)) aNil)) [some (.val S), some .orc, d2, d3, d4, d5, d6, d7, d8, d9, d10]) 1 fun d => ∃ i, i < 5 ∧ d = nI i := ok_callr (ss := [.orc, .val (nI 5)]) rfl (ok_draw (l := 5) (by decide) (by decide))
  unfold rt0
  refine (ok_set (P := fun d => ∃ c, (1 ≤ c ∧ c ≤ 5) ∧ d = nI c) (ok_e2r (x := nI 1) rfl q ?_)).mono (Nat.le_refl _) ?_
  · rintro y ⟨i, hi, rfl⟩
    exact ⟨_, nI_add, 1 + i, ⟨by omega, by omega⟩, rfl⟩
  · rintro o ⟨e, eo, d, ⟨c, hc, rfl⟩, ee⟩
    exact ⟨e, eo, c, hc, ee⟩
theorem r1 (h1 : 1 ≤ c) (h5 : c ≤ 5) : Ok (rt1 [some (.val S), some .orc, d2, some (.val (nI c)), d4, d5, d6, d7, d8, d9, d10]) 10 fun o => ∃ e, o = .nx e ∧ ∃ A, Val c A ∧ e = hE S c (fD A) d2 d5 d6 d7 d8 d9 d10 := by
  have q : Ok (eCall m_law_some_figure (aOrc 1 (aVal (eVar 3) aNil)) [some (.val S), some .orc, d2, some (.val (nI c)), d4, d5, d6, d7, d8, d9, d10]) (2 * c) fun d => ∃ xs, Val c xs ∧ d = fD xs := ok_callr (aO rfl (a1 (d := nI c) rfl)) (ok_some_figure h1 h5)
  unfold rt1
  refine (ok_set q).mono (by omega) ?_
  rintro o ⟨e, eo, d, ⟨A, hA, rfl⟩, ee⟩
  exact ⟨e, eo, A, hA, ee⟩
theorem r2 (h1 : 1 ≤ c) (h5 : c ≤ 5) (hA : Val c A) : Ok (rt2 (hE S c (fD A) d2 d5 d6 d7 d8 d9 d10)) 17 fun o => ∃ e, o = .nx e ∧ ∃ A', Val c A' ∧ e = hE S c (fD A') d2 d5 d6 d7 d8 d9 d10 := by
  have q : Ok (eCall m_law_draw (aOrc 1 (aVal (eC (.int 2)) aNil)) (hE S c (fD A) d2 d5 d6 d7 d8 d9 d10)) 1 fun d => ∃ i, i < 2 ∧ d = nI i := ok_callr (ss := [.orc, .val (nI 2)]) rfl (ok_draw (l := 2) (by decide) (by decide))
  have fm : Ok (eCall m_law_some_family (aOrc 1 aNil) (hE S c (fD A) d2 d5 d6 d7 d8 d9 d10)) 5 fun d => ∃ ws, ws ∈ fams ∧ d = famD ws := ok_callr (ss := [.orc]) rfl ok_some_family
  have a2 : Ok (aVal (eCall m_law_some_family (aOrc 1 aNil)) (aVal (eC (.int 9)) aNil) (hE S c (fD A) d2 d5 d6 d7 d8 d9 d10)) 5 fun ss => ∃ ws, ws ∈ fams ∧ ss = [.val (famD ws), .val (nI 9)] := by
    unfold aVal
    refine (Ok.bind (m := 0) fm fun d ⟨ws, hw, e⟩ => ?_).mono (Nat.le_refl _) fun _ h => h
    subst e
    exact Ok.of (a := [.val (famD ws), .val (nI 9)]) rfl ⟨ws, hw, rfl⟩
  have a3 : Ok (aOrc 1 (aVal (eVar 3) (aVal (eCall m_law_some_family (aOrc 1 aNil)) (aVal (eC (.int 9)) aNil))) (hE S c (fD A) d2 d5 d6 d7 d8 d9 d10)) 5 fun ss => ∃ ws, ws ∈ fams ∧ ss = [.orc, .val (nI c), .val (famD ws), .val (nI 9)] := by
    show Ok ((Tr.bind (aVal (eVar 3) (aVal (eCall m_law_some_family (aOrc 1 aNil)) (aVal (eC (.int 9)) aNil)) (hE S c (fD A) d2 d5 d6 d7 d8 d9 d10)) fun ss => .ret (.orc :: ss))) 5 _
    refine (Ok.bind (m := 0) (ok_aC (x := nI c) rfl a2) ?_).mono (Nat.le_refl _) fun _ h => h
    rintro ss ⟨ss', rfl, ws, hw, rfl⟩
    exact Ok.ret ⟨ws, hw, rfl⟩
  have rw1 : Ok (eCall m_law_row (aOrc 1 (aVal (eVar 3) (aVal (eCall m_law_some_family (aOrc 1 aNil)) (aVal (eC (.int 9)) aNil)))) (hE S c (fD A) d2 d5 d6 d7 d8 d9 d10)) 16 fun d => ∃ ds, d = rowD ds ∧ ds.length ≤ 10 ∧ ∀ d ∈ ds, d ∈ deedsOf c [0, 1, 2, 3] := by
    refine (ok_call (m := 11) a3 ?_).mono (by decide) fun _ h => h
    rintro ss ⟨ws, hw, rfl⟩
    exact ok_rowM (M := 9) (by decide) h1 h5 hw
  have fg1 : Ok (eCall m_law_figure (aVal (eVar 3) (aVal (eCall m_law_row (aOrc 1 (aVal (eVar 3) (aVal (eCall m_law_some_family (aOrc 1 aNil)) (aVal (eC (.int 9)) aNil))))) aNil)) (hE S c (fD A) d2 d5 d6 d7 d8 d9 d10)) 16 fun d => ∃ xs k, Val c xs ∧ d = .tuple [fD xs, nI k] := by
    refine (ok_call (m := 0) (ok_aC (x := nI c) rfl (ok_a1 rw1)) ?_).mono (Nat.le_refl _) fun _ h => h
    rintro ss ⟨ss', rfl, d, rfl, ds, rfl, hl, hd⟩
    obtain ⟨q1, q2⟩ := v_lawfig h1 h5 hd
    exact Ok.of q1 ⟨_, _, q2, rfl⟩
  unfold rt2
  refine (ok_if (m := 16) (ok_tt (ok_e2l (y := nI 0) q rfl ?_)) ?_ ?_).mono (by decide) fun _ h => h
  · rintro x ⟨i, hi, rfl⟩
    exact ⟨_, nI_eq, _, rfl⟩
  · refine (ok_set (P := fun d => ∃ A', Val c A' ∧ d = fD A') (ok_e2l (y := nI 0) fg1 rfl ?_)).mono (Nat.le_refl _) ?_
    · rintro x ⟨xs, k, hv, rfl⟩
      exact ⟨fD xs, rfl, xs, hv, rfl⟩
    · rintro o ⟨e, eo, d, ⟨A', hA', rfl⟩, ee⟩
      exact ⟨e, eo, A', hA', ee⟩
  · exact (Ok.of (a := Out.nx (hE S c (fD A) d2 d5 d6 d7 d8 d9 d10)) rfl ⟨_, rfl, A, hA, rfl⟩).mono (by decide) fun _ h => h
theorem r3 (h1 : 1 ≤ c) (h5 : c ≤ 5) : rt3 (hE S c (fD A) d2 d5 d6 d7 d8 d9 d10) = .ret (.nx (hE S c (fD A) d2 d5 (some (.val (fD (pw c A 0)))) (some (.val (nI (lw c A 0)))) d8 d9 d10)) := by
  have a : eCall m_law_straight (aVal (eVar 3) aNil) (hE S c (fD A) d2 d5 d6 d7 d8 d9 d10) = .ret (fD (stL c)) := call_r (a1 (d := nI c) rfl) (v_straight h1 h5).2
  unfold rt3 sPar
  rw [a]
  rfl
theorem told3 (h1 : 1 ≤ c) (h5 : c ≤ 5) (hA : Val c A) (hn : n ≤ 1000000000) : eLst (lCons (eCall m_power (aVal (eVar 3) (aVal (eVar 4) (aVal (eVar 5) aNil)))) (lCons (eCall m_power_leftovers (aVal (eVar 3) (aVal (eVar 4) (aVal (eVar 5) aNil)))) lNil)) (hE S c (fD A) d2 (some (.val (nI n))) d6 d7 d8 d9 d10) = .ret (.list [fD (pw c A n), nI (lw c A n)]) :=
  lst2 (call_r (aC (d := nI c) rfl (aC (d := fD A) rfl (a1 (d := nI n) rfl))) (v_power h1 h5 hA hn)) (call_r (aC (d := nI c) rfl (aC (d := fD A) rfl (a1 (d := nI n) rfl))) (v_power_leftovers h1 h5 hA hn))
theorem app_two {f : FE} {env : Ev} {x y z : D} {i : Nat} (hi : env[i]? = some (some (.own (.list [x, y])))) (h : f env = .ret z) : sApp i f env = .ret (.nx (env.set i (some (.own (.list [x, y, z]))))) := by
  unfold sApp
  rw [hi]
  dsimp only
  rw [h, bret]
  exact if_pos (show 2 < sizeLine by decide)
theorem r4_turn (h1 : 1 ≤ c) (h5 : c ≤ 5) (hA : Val c A) (hn : n ≤ 8) : ∃ y8 y9, sSeq ra0 (sSeq ra1 ra2) (hE S c (fD A) d2 (some (.val (nI n))) (some (.val (fD (pw c A n)))) (some (.val (nI (lw c A n)))) d8 d9 d10) = .ret (.nx (hE S c (fD A) d2 (some (.val (nI n))) (some (.val (fD (pw c A (n + 1))))) (some (.val (nI (lw c A (n + 1))))) y8 y9 d10)) := by
  have hb : n ≤ 1000000000 := by omega
  let e1 : Ev := hE S c (fD A) d2 (some (.val (nI n))) (some (.val (fD (pw c A n)))) (some (.val (nI (lw c A n)))) (some (.own (.list [fD (pw c A n), nI (lw c A n)]))) d9 d10
  have s0 : ra0 (hE S c (fD A) d2 (some (.val (nI n))) (some (.val (fD (pw c A n)))) (some (.val (nI (lw c A n)))) d8 d9 d10) = .ret (.nx e1) := by
    unfold ra0 sSetO
    rw [told3 h1 h5 hA hb]
    rfl
  have rg : eCall m_power_rings (aVal (eVar 3) (aVal (eVar 4) (aVal (eVar 5) aNil))) e1 = .ret (nI (ringsL c (pw c A n) + lw c A n)) := call_r (aC (d := nI c) rfl (aC (d := fD A) rfl (a1 (d := nI n) rfl))) (v_power_rings h1 h5 hA hb)
  have s1 : ra1 e1 = .ret (.nx (hE S c (fD A) d2 (some (.val (nI n))) (some (.val (fD (pw c A n)))) (some (.val (nI (lw c A n)))) (some (.own (trD c A n))) d9 d10)) := app_two (i := 8) rfl rg
  let e2' : Ev := hE S c (fD A) d2 (some (.val (nI n))) (some (.val (fD (pw c A n)))) (some (.val (nI (lw c A n)))) (some (.val (trD c A n))) d9 d10
  have lr : e2 dAddA (eCall m_law_rings (aVal (eVar 3) (aVal (eVar 6) aNil))) (eVar 7) e2' = .ret (nI (ringsL c (pw c A n) + lw c A n)) := e2_r (call_r (aC (d := nI c) rfl (a1 (d := fD (pw c A n)) rfl)) (v_law_rings h5 (pw_val n))) (y := nI (lw c A n)) rfl nI_add
  have l3 : eLst (lCons (eVar 6) (lCons (eVar 7) (lCons (e2 dAddA (eCall m_law_rings (aVal (eVar 3) (aVal (eVar 6) aNil))) (eVar 7)) lNil))) e2' = .ret (trD c A n) := lst3 (x := fD (pw c A n)) (y := nI (lw c A n)) rfl rfl lr
  have s2 : sIf (bNot (tt (eCall m_law_like (aVal (eVar 8) (aVal (eLst (lCons (eVar 6) (lCons (eVar 7) (lCons (e2 dAddA (eCall m_law_rings (aVal (eVar 3) (aVal (eVar 6) aNil))) (eVar 7)) lNil)))) aNil))))) (sRet (eC (.bool false))) sNext e2' = .ret (.nx e2') := like_nxB (aC (d := trD c A n) rfl (a1 l3)) (tr_in h5 hb) (by decide) (by decide) rfl
  have up : eCall m_law_upon (aVal (eVar 3) (aVal (eVar 6) (aVal (eVar 4) aNil))) e2' = .ret (.tuple [fD (pw c A (n + 1)), nI (leftL c (pw c A n) A)]) := call_r (aC (d := nI c) rfl (aC (d := fD (pw c A n)) rfl (a1 (d := fD A) rfl))) (v_lawup h1 h5 (pw_val n) hA)
  have s3 := asg_two (i := 6) (j := 9) up
  have s4 : sSet 7 (e2 dAddA (eVar 7) (eVar 9)) (hE S c (fD A) d2 (some (.val (nI n))) (some (.val (fD (pw c A (n + 1))))) (some (.val (nI (lw c A n)))) (some (.val (trD c A n))) (some (.val (nI (leftL c (pw c A n) A)))) d10) = .ret (.nx (hE S c (fD A) d2 (some (.val (nI n))) (some (.val (fD (pw c A (n + 1))))) (some (.val (nI (lw c A (n + 1))))) (some (.val (trD c A n))) (some (.val (nI (leftL c (pw c A n) A)))) d10)) := set_nx (e2_r (x := nI (lw c A n)) (y := nI (leftL c (pw c A n) A)) rfl rfl nI_add)
  refine ⟨some (.val (trD c A n)), some (.val (nI (leftL c (pw c A n) A))), ?_⟩
  refine (seq_nx s0).trans ((seq_nx s1).trans ?_)
  exact (seq_nx s2).trans ((seq_nx s3).trans s4)
theorem r4 (h1 : 1 ≤ c) (h5 : c ≤ 5) (hA : Val c A) : ∃ e, rt4 (hE S c (fD A) d2 d5 (some (.val (fD (pw c A 0)))) (some (.val (nI (lw c A 0)))) d8 d9 d10) = .ret (.nx e) ∧ ∃ y5 y6 y7 y8 y9, e = hE S c (fD A) d2 y5 y6 y7 y8 y9 d10 := by
  obtain ⟨env', g1, y5, y8, y9, e⟩ := for_all (tgt := gN 5) (body := sSeq ra0 (sSeq ra1 ra2)) (dd := nI) (fun i (_ : Unit) env => ∃ y5 y8 y9, env = hE S c (fD A) d2 y5 (some (.val (fD (pw c A i)))) (some (.val (nI (lw c A i)))) y8 y9 d10) (fun s _ => s) (xs := List.range 9) (s := ()) (env := hE S c (fD A) d2 d5 (some (.val (fD (pw c A 0)))) (some (.val (nI (lw c A 0)))) d8 d9 d10) ⟨_, _, _, rfl⟩ fun i s x env hx h => by
    obtain ⟨y5, y8, y9, rfl⟩ := h
    have hi : x = i ∧ i < 9 := by
      obtain ⟨hi, e⟩ := List.getElem?_eq_some_iff.mp hx
      rw [List.getElem_range] at e
      rw [List.length_range] at hi
      exact ⟨e.symm, hi⟩
    obtain ⟨rfl, hi⟩ := hi
    obtain ⟨z8, z9, q⟩ := r4_turn (S := S) (d2 := d2) (d8 := y8) (d9 := y9) (d10 := d10) (n := x) h1 h5 hA (by omega)
    exact ⟨_, _, rfl, q, _, _, _, rfl⟩
  refine ⟨env', ?_, y5, _, _, y8, y9, e⟩
  exact (forR_n (n := 9) rfl (by decide)).trans g1
theorem r5_turn (h1 : 1 ≤ c) (h5 : c ≤ 5) (hA : Val c A) (hn : n ≤ 1000000000) : ∃ y7 y8 y10, sSeq rb0 (sSeq rb1 (sSeq rb2 rb3)) (hE S c (fD A) d2 (some (.val (nI n))) d6 d7 d8 d9 d10) = .ret (.nx (hE S c (fD A) d2 (some (.val (nI n))) d6 y7 y8 d9 y10)) := by
  have tm : eCall m_law_times (aVal (eVar 3) (aVal (eVar 4) (aVal (eVar 5) aNil))) (hE S c (fD A) d2 (some (.val (nI n))) d6 d7 d8 d9 d10) = .ret (.tuple [fD (pw c A n), nI (lw c A n)]) := call_r (aC (d := nI c) rfl (aC (d := fD A) rfl (a1 (d := nI n) rfl))) (v_law_times h1 h5 hA (by omega))
  have s0 : rb0 (hE S c (fD A) d2 (some (.val (nI n))) d6 d7 d8 d9 d10) = .ret (.nx (hE S c (fD A) d2 (some (.val (nI n))) d6 (some (.val (nI (lw c A n)))) d8 d9 (some (.val (fD (pw c A n)))))) := asg_two (i := 10) (j := 7) tm
  let e1 : Ev := hE S c (fD A) d2 (some (.val (nI n))) d6 (some (.val (nI (lw c A n)))) (some (.own (.list [fD (pw c A n), nI (lw c A n)]))) d9 (some (.val (fD (pw c A n))))
  have s1 : rb1 (hE S c (fD A) d2 (some (.val (nI n))) d6 (some (.val (nI (lw c A n)))) d8 d9 (some (.val (fD (pw c A n))))) = .ret (.nx e1) := by
    unfold rb1 sSetO
    rw [told3 h1 h5 hA hn]
    rfl
  have rg : eCall m_power_rings (aReo 3 [2, 1, 0] (aVal (eVar 5) (aVal (eVar 4) (aVal (eVar 3) aNil)))) e1 = .ret (nI (ringsL c (pw c A n) + lw c A n)) := call_r (aR (aC (d := nI n) rfl (aC (d := fD A) rfl (a1 (d := nI c) rfl)))) (v_power_rings h1 h5 hA hn)
  have s2 : rb2 e1 = .ret (.nx (hE S c (fD A) d2 (some (.val (nI n))) d6 (some (.val (nI (lw c A n)))) (some (.own (trD c A n))) d9 (some (.val (fD (pw c A n)))))) := app_two (i := 8) rfl rg
  let e2' : Ev := hE S c (fD A) d2 (some (.val (nI n))) d6 (some (.val (nI (lw c A n)))) (some (.val (trD c A n))) d9 (some (.val (fD (pw c A n))))
  have lr : e2 dAddA (eCall m_law_rings (aVal (eVar 3) (aVal (eVar 10) aNil))) (eVar 7) e2' = .ret (nI (ringsL c (pw c A n) + lw c A n)) := e2_r (call_r (aC (d := nI c) rfl (a1 (d := fD (pw c A n)) rfl)) (v_law_rings h5 (pw_val n))) (y := nI (lw c A n)) rfl nI_add
  have l3 : eLst (lCons (eVar 10) (lCons (eVar 7) (lCons (e2 dAddA (eCall m_law_rings (aVal (eVar 3) (aVal (eVar 10) aNil))) (eVar 7)) lNil))) e2' = .ret (trD c A n) := lst3 (x := fD (pw c A n)) (y := nI (lw c A n)) rfl rfl lr
  have s3 : sIf (bNot (tt (eCall m_law_like (aVal (eVar 8) (aVal (eLst (lCons (eVar 10) (lCons (eVar 7) (lCons (e2 dAddA (eCall m_law_rings (aVal (eVar 3) (aVal (eVar 10) aNil))) (eVar 7)) lNil)))) aNil))))) (sRet (eC (.bool false))) sNext e2' = .ret (.nx e2') := like_nxB (aC (d := trD c A n) rfl (a1 l3)) (tr_in h5 hn) (by decide) (by decide) rfl
  exact ⟨_, _, _, (seq_nx s0).trans ((seq_nx s1).trans ((seq_nx s2).trans s3))⟩
theorem r5_list : Ok (eTup (lCons (eCall m_law_draw (aOrc 1 (aVal (e2 dAddA (e2 dPow (eC (.int 10)) (eC (.int 9))) (eC (.int 1))) aNil))) (lCons (e2 dPow (eC (.int 10)) (eC (.int 9))) (lCons (eCall m_law_draw (aOrc 1 (aVal (eC (.int 200)) aNil))) lNil))) (hE S c (fD A) d2 d5 d6 d7 d8 d9 d10)) 2 fun d => ∃ ms : List Nat, d = fD ms ∧ ∀ n ∈ ms, n ≤ 1000000000 := by
  let e : Ev := hE S c (fD A) d2 d5 d6 d7 d8 d9 d10
  have pow : e2 dPow (eC (.int 10)) (eC (.int 9)) e = .ret (nI 1000000000) := e2_r (x := .int 10) (y := .int 9) rfl rfl (by show (if (0 : Int) ≤ 9 ∧ (9 : Int) ≤ 1000 ∧ (10 : Int).natAbs < 2 ^ 64 then some (PyData.int ((10 : Int) ^ (9 : Int).toNat)) else none) = _; rw [if_pos (by decide)]; rfl)
  have lim : e2 dAddA (e2 dPow (eC (.int 10)) (eC (.int 9))) (eC (.int 1)) e = .ret (nI 1000000001) := e2_r pow (y := nI 1) rfl nI_add
  have a : Ok (eCall m_law_draw (aOrc 1 (aVal (e2 dAddA (e2 dPow (eC (.int 10)) (eC (.int 9))) (eC (.int 1))) aNil)) e) 1 fun d => ∃ i, i < 1000000001 ∧ d = nI i := ok_callr (aO rfl (a1 lim)) (ok_drawB (by decide) (by decide))
  have b : Ok (eCall m_law_draw (aOrc 1 (aVal (eC (.int 200)) aNil)) e) 1 fun d => ∃ i, i < 200 ∧ d = nI i := ok_callr (ss := [.orc, .val (nI 200)]) rfl (ok_draw (l := 200) (by decide) (by decide))
  have l2 : Ok (lCons (e2 dPow (eC (.int 10)) (eC (.int 9))) (lCons (eCall m_law_draw (aOrc 1 (aVal (eC (.int 200)) aNil))) lNil) e) 1 fun ds => ∃ i, i < 200 ∧ ds = [nI 1000000000, nI i] := by
    show Ok ((e2 dPow (eC (.int 10)) (eC (.int 9)) e).bind fun d => (lCons (eCall m_law_draw (aOrc 1 (aVal (eC (.int 200)) aNil))) lNil e).bind fun ds => .ret (d :: ds)) 1 _
    rw [pow, bret]
    refine (Ok.bind (m := 0) (ok_l1 b) ?_).mono (Nat.le_refl _) fun _ h => h
    rintro ds ⟨d, rfl, i, hi, rfl⟩
    exact Ok.ret ⟨i, hi, rfl⟩
  have l3 : Ok (lCons (eCall m_law_draw (aOrc 1 (aVal (e2 dAddA (e2 dPow (eC (.int 10)) (eC (.int 9))) (eC (.int 1))) aNil))) (lCons (e2 dPow (eC (.int 10)) (eC (.int 9))) (lCons (eCall m_law_draw (aOrc 1 (aVal (eC (.int 200)) aNil))) lNil)) e) 2 fun ds => ∃ i j, i < 1000000001 ∧ j < 200 ∧ ds = [nI i, nI 1000000000, nI j] := by
    show Ok ((eCall m_law_draw (aOrc 1 (aVal (e2 dAddA (e2 dPow (eC (.int 10)) (eC (.int 9))) (eC (.int 1))) aNil)) e).bind fun d => (lCons (e2 dPow (eC (.int 10)) (eC (.int 9))) (lCons (eCall m_law_draw (aOrc 1 (aVal (eC (.int 200)) aNil))) lNil) e).bind fun ds => .ret (d :: ds)) 2 _
    refine (Ok.bind (m := 1) a ?_).mono (Nat.le_refl _) fun _ h => h
    rintro d ⟨i, hi, rfl⟩
    refine (Ok.bind (m := 0) l2 ?_).mono (Nat.le_refl _) fun _ h => h
    rintro ds ⟨j, hj, rfl⟩
    exact Ok.ret ⟨i, j, hi, hj, rfl⟩
  unfold eTup
  refine (Ok.bind (m := 0) l3 ?_).mono (Nat.le_refl _) fun _ h => h
  rintro ds ⟨i, j, hi, hj, rfl⟩
  rw [if_pos (show [nI i, nI 1000000000, nI j].length ≤ sizeLine from show 3 ≤ sizeLine by decide)]
  refine Ok.ret ⟨[i, 1000000000, j], rfl, fun n hn => ?_⟩
  simp at hn
  omega
theorem r5 (h1 : 1 ≤ c) (h5 : c ≤ 5) (hA : Val c A) : Ok (rt5 (hE S c (fD A) d2 d5 d6 d7 d8 d9 d10)) 2 fun o => ∃ e, o = .nx e ∧ hrI S e := by
  unfold rt5 sForS
  refine (Ok.bind (m := 0) r5_list ?_).mono (Nat.le_refl _) fun _ h => h
  rintro d ⟨ms, rfl, hm⟩
  obtain ⟨env', g1, y5, y7, y8, y10, e⟩ := for_all (tgt := gN 5) (body := sSeq rb0 (sSeq rb1 (sSeq rb2 rb3))) (dd := nI) (fun _ (_ : Unit) env => ∃ y5 y7 y8 y10, env = hE S c (fD A) d2 y5 d6 y7 y8 d9 y10) (fun s _ => s) (xs := ms) (s := ()) (env := hE S c (fD A) d2 d5 d6 d7 d8 d9 d10) ⟨_, _, _, _, rfl⟩ fun i s x env hx h => by
    obtain ⟨y5, y7, y8, y10, rfl⟩ := h
    obtain ⟨z7, z8, z10, q⟩ := r5_turn (S := S) (d2 := d2) (d6 := d6) (d7 := y7) (d8 := y8) (d9 := d9) (d10 := y10) h1 h5 hA (hm x (List.mem_of_getElem? hx))
    exact ⟨_, _, rfl, q, _, _, _, _, rfl⟩
  exact Ok.of g1 ⟨env', rfl, _, _, _, _, _, _, _, _, _, e⟩
end
theorem ok_body27 {S : D} {e : Ev} (h : hrI S e) : Ok (body27 e) 40 fun o => ∃ e, o = .nx e ∧ hrI S e := by
  obtain ⟨d2, d3, d4, d5, d6, d7, d8, d9, d10, rfl⟩ := h
  unfold body27
  refine (ok_seq (m := 39) r0 ?_).mono (by decide) fun _ h => h
  rintro e ⟨c, ⟨h1, h5⟩, rfl⟩
  refine (ok_seq (m := 29) (r1 h1 h5) ?_).mono (by decide) fun _ h => h
  rintro e ⟨A0, hA0, rfl⟩
  refine (ok_seq (m := 12) (r2 h1 h5 hA0) ?_).mono (by decide) fun _ h => h
  rintro e ⟨A, hA, rfl⟩
  rw [seq_nx (r3 h1 h5)]
  obtain ⟨e, q, y5, y6, y7, y8, y9, rfl⟩ := r4 (S := S) (d2 := d2) (d5 := d5) (d8 := d8) (d9 := d9) (d10 := d10) h1 h5 hA
  rw [seq_nx q]
  exact (r5 h1 h5 hA).mono (by decide) fun _ h => h
theorem rest27_ok : RestOk 9 rest27 := by
  intro ns hn
  have l0 : eCB dMin2 (lCons (eC (.int 3)) (lCons (eCB dLenA (lCons (eVar 0) lNil)) lNil)) (env0 9 ns) = .ret (nI (min 3 ns.length)) := by
    have a : eCB dLenA (lCons (eVar 0) lNil) (env0 9 ns) = .ret (nI ns.length) := by
      show Tr.ret (PyData.int ((ns.map PyData.int).length : Nat)) = _
      rw [List.length_map]
      rfl
    refine cb_r (lc2 (x := nI 3) (y := nI ns.length) rfl a) ?_
    show some (PyData.int (if (ns.length : Int) < 3 then (ns.length : Int) else 3)) = _
    unfold nI
    congr 2
    split <;> omega
  have l1 : e2 dAddA (eC (.int 1)) (eCB dMin2 (lCons (eC (.int 3)) (lCons (eCB dLenA (lCons (eVar 0) lNil)) lNil))) (env0 9 ns) = .ret (nI (1 + min 3 ns.length)) := e2_r (x := nI 1) rfl l0 nI_add
  have key : Ok (rest27 (env0 9 ns)) (40 * (1 + min 3 ns.length)) fun o => o = .rv (.bool true) := by
    unfold rest27
    have q := ok_for (tgt := gN 2) (body := body27) (I := hrI (scrD (ns.map PyData.int))) (k := 40) ((List.range (1 + min 3 ns.length)).map nI) (env0 9 ns) ⟨none, none, none, none, none, none, none, none, none, rfl⟩ fun d e h => by
      obtain ⟨d2, d3, d4, d5, d6, d7, d8, d9, d10, rfl⟩ := h
      exact ⟨_, rfl, ok_body27 ⟨_, _, _, _, _, _, _, _, _, rfl⟩⟩
    rw [← forR_n (f := e2 dAddA (eC (.int 1)) (eCB dMin2 (lCons (eC (.int 3)) (lCons (eCB dLenA (lCons (eVar 0) lNil)) lNil)))) l1 (by omega), List.length_map, List.length_range] at q
    exact (ok_seq (m := 0) q fun e he => Ok.of (a := .rv (.bool true)) rfl rfl).mono (Nat.le_refl _) fun _ h => h
  refine ⟨40 * (1 + min 3 ns.length), by omega, ?_⟩
  exact Tr.All_mono (key.run _ (Nat.le_refl _)) fun o c h => h.2
end FL
end
section
set_option maxRecDepth 100000
namespace T27
open DL
theorem e_rest : m_rest = FL.rest27 := by with_unfolding_all rfl
theorem rest_ok : RestOk 9 m_rest := by
  rw [e_rest]
  exact FL.rest27_ok
end T27
end
section
set_option linter.all false
set_option maxRecDepth 100000
namespace T27
open PySem PySem.Spec PyProof.Rows L2 DL
def D_is_between : He.DefD := ⟨("is_between", none), "is_between", "is_between", defArgs s_is_between, defBody s_is_between, defScope s_is_between, [], []⟩
def D_need_number : He.DefD := ⟨("need_number", none), "need_number", "need_number", defArgs s_need_number, defBody s_need_number, defScope s_need_number, [], []⟩
def D_need_cords : He.DefD := ⟨("need_cords", none), "need_cords", "need_cords", defArgs s_need_cords, defBody s_need_cords, defScope s_need_cords, [], []⟩
def D_wrong_point : He.DefD := ⟨("wrong_point", none), "wrong_point", "wrong_point", defArgs s_wrong_point, defBody s_wrong_point, defScope s_wrong_point, [], []⟩
def D_need_figure : He.DefD := ⟨("need_figure", none), "need_figure", "need_figure", defArgs s_need_figure, defBody s_need_figure, defScope s_need_figure, [], []⟩
def D_renumbered : He.DefD := ⟨("renumbered", none), "renumbered", "renumbered", defArgs s_renumbered, defBody s_renumbered, defScope s_renumbered, [], []⟩
def D_merged : He.DefD := ⟨("merged", none), "merged", "merged", defArgs s_merged, defBody s_merged, defScope s_merged, [], []⟩
def D_straight_figure : He.DefD := ⟨("straight_figure", none), "straight_figure", "straight_figure", defArgs s_straight_figure, defBody s_straight_figure, defScope s_straight_figure, [], []⟩
def D_put_together : He.DefD := ⟨("put_together", none), "put_together", "put_together", defArgs s_put_together, defBody s_put_together, defScope s_put_together, [], []⟩
def D_need_power : He.DefD := ⟨("need_power", none), "need_power", "need_power", defArgs s_need_power, defBody s_need_power, defScope s_need_power, [], []⟩
def D_course_of : He.DefD := ⟨("course_of", none), "course_of", "course_of", defArgs s_course_of, defBody s_course_of, defScope s_course_of, [], []⟩
def D_power_and_leftovers : He.DefD := ⟨("power_and_leftovers", none), "power_and_leftovers", "power_and_leftovers", defArgs s_power_and_leftovers, defBody s_power_and_leftovers, defScope s_power_and_leftovers, [], []⟩
def D_power : He.DefD := ⟨("power", none), "power", "power", defArgs s_power, defBody s_power, defScope s_power, [], []⟩
def D_power_leftovers : He.DefD := ⟨("power_leftovers", none), "power_leftovers", "power_leftovers", defArgs s_power_leftovers, defBody s_power_leftovers, defScope s_power_leftovers, [], []⟩
def D_closed_places : He.DefD := ⟨("closed_places", none), "closed_places", "closed_places", defArgs s_closed_places, defBody s_closed_places, defScope s_closed_places, [], []⟩
def D_many_rings : He.DefD := ⟨("many_rings", none), "many_rings", "many_rings", defArgs s_many_rings, defBody s_many_rings, defScope s_many_rings, [], []⟩
def D_power_rings : He.DefD := ⟨("power_rings", none), "power_rings", "power_rings", defArgs s_power_rings, defBody s_power_rings, defScope s_power_rings, [], []⟩
def D_law_mixed : He.DefD := ⟨("_law_mixed", none), "_law_mixed", "_law_mixed", defArgs s_law_mixed, defBody s_law_mixed, defScope s_law_mixed, [], []⟩
def D_law_folded : He.DefD := ⟨("_law_folded", none), "_law_folded", "_law_folded", defArgs s_law_folded, defBody s_law_folded, defScope s_law_folded, [], []⟩
def D_law_draw : He.DefD := ⟨("_law_draw", none), "_law_draw", "_law_draw", defArgs s_law_draw, defBody s_law_draw, defScope s_law_draw, [], []⟩
def D_law_begun : He.DefD := ⟨("_law_begun", none), "_law_begun", "_law_begun", defArgs s_law_begun, defBody s_law_begun, defScope s_law_begun, [], []⟩
def D_law_of : He.DefD := ⟨("_law_of", none), "_law_of", "_law_of", defArgs s_law_of, defBody s_law_of, defScope s_law_of, [], []⟩
def D_law_like : He.DefD := ⟨("_law_like", none), "_law_like", "_law_like", defArgs s_law_like, defBody s_law_like, defScope s_law_like, [], []⟩
def D_law_named : He.DefD := ⟨("_law_named", none), "_law_named", "_law_named", defArgs s_law_named, defBody s_law_named, defScope s_law_named, [], []⟩
def D_law_straight : He.DefD := ⟨("_law_straight", none), "_law_straight", "_law_straight", defArgs s_law_straight, defBody s_law_straight, defScope s_law_straight, [], []⟩
def D_law_deed : He.DefD := ⟨("_law_deed", none), "_law_deed", "_law_deed", defArgs s_law_deed, defBody s_law_deed, defScope s_law_deed, [], []⟩
def D_law_upon : He.DefD := ⟨("_law_upon", none), "_law_upon", "_law_upon", defArgs s_law_upon, defBody s_law_upon, defScope s_law_upon, [], []⟩
def D_law_figure : He.DefD := ⟨("_law_figure", none), "_law_figure", "_law_figure", defArgs s_law_figure, defBody s_law_figure, defScope s_law_figure, [], []⟩
def D_law_deeds : He.DefD := ⟨("_law_deeds", none), "_law_deeds", "_law_deeds", defArgs s_law_deeds, defBody s_law_deeds, defScope s_law_deeds, [], []⟩
def D_law_row : He.DefD := ⟨("_law_row", none), "_law_row", "_law_row", defArgs s_law_row, defBody s_law_row, defScope s_law_row, [], []⟩
def D_law_some_family : He.DefD := ⟨("_law_some_family", none), "_law_some_family", "_law_some_family", defArgs s_law_some_family, defBody s_law_some_family, defScope s_law_some_family, [], []⟩
def D_law_some_figure : He.DefD := ⟨("_law_some_figure", none), "_law_some_figure", "_law_some_figure", defArgs s_law_some_figure, defBody s_law_some_figure, defScope s_law_some_figure, [], []⟩
def D_law_kinds : He.DefD := ⟨("_law_kinds", none), "_law_kinds", "_law_kinds", defArgs s_law_kinds, defBody s_law_kinds, defScope s_law_kinds, [], []⟩
def D_law_rings : He.DefD := ⟨("_law_rings", none), "_law_rings", "_law_rings", defArgs s_law_rings, defBody s_law_rings, defScope s_law_rings, [], []⟩
def D_law_both : He.DefD := ⟨("_law_both", none), "_law_both", "_law_both", defArgs s_law_both, defBody s_law_both, defScope s_law_both, [], []⟩
def D_law_times : He.DefD := ⟨("_law_times", none), "_law_times", "_law_times", defArgs s_law_times, defBody s_law_times, defScope s_law_times, [], []⟩
def D_law : He.DefD := ⟨("law", none), "law", "law", defArgs s_law, defBody s_law, defScope s_law, [], []⟩
def fns : List He.DefD := [D_is_between, D_need_number, D_need_cords, D_wrong_point, D_need_figure, D_renumbered, D_merged, D_straight_figure, D_put_together, D_need_power, D_course_of, D_power_and_leftovers, D_power, D_power_leftovers, D_closed_places, D_many_rings, D_power_rings, D_law_mixed, D_law_folded, D_law_draw, D_law_begun, D_law_of, D_law_like, D_law_named, D_law_straight, D_law_deed, D_law_upon, D_law_figure, D_law_deeds, D_law_row, D_law_some_family, D_law_some_figure, D_law_kinds, D_law_rings, D_law_both, D_law_times, D_law]
def fas : List He.Fa := [.glo "is_between", .glo "need_number", .glo "need_cords", .glo "wrong_point", .glo "need_figure", .glo "renumbered", .glo "merged", .glo "straight_figure", .glo "put_together", .glo "need_power", .glo "course_of", .glo "power_and_leftovers", .glo "power", .glo "power_leftovers", .glo "closed_places", .glo "many_rings", .glo "power_rings", .glo "_law_mixed", .glo "_law_folded", .glo "_law_draw", .glo "_law_begun", .glo "_law_of", .glo "_law_like", .glo "_law_named", .glo "_law_straight", .glo "_law_deed", .glo "_law_upon", .glo "_law_figure", .glo "_law_deeds", .glo "_law_row", .glo "_law_some_family", .glo "_law_some_figure", .glo "_law_kinds", .glo "_law_rings", .glo "_law_both", .glo "_law_times", .glo "law", .free "all", .free "any", .free "bool", .free "dict", .free "divmod", .free "enumerate", .free "int", .free "isinstance", .free "len", .free "list", .free "max", .free "min", .free "range", .free "repr", .free "set", .free "sorted", .free "str", .free "sum", .free "tuple", .free "type", .free "zip", .int "MOST_CORDS" 5, .int "MOST_TIMES" 1000000000]
def exs (K : PySem.W.Frag) : Bool := true
abbrev RR : PySem.W.OpenRow := PySem.W.OpenLaw.row PySem.Challenge.rw_hookedcords_k27_whole_leftovers_of_great
abbrev hk : PySem.W.Hook := hookM 4 fas fns exs
def ob (s : PySem.W.SharedT) : He.AlD × Bool := obsM 4 fas fns exs (HandSHeadRun.getT s)
theorem ob_eq (s : PySem.W.SharedT) : ob s = hk.obs s.abs := obsM_eq (HandSHeadRun.getT_eq s)
def loose0 : List PySem.Str := ["HookError", "BadCords", "BadFigure", "BadNumber", "MOST_CORDS", "is_between", "need_number", "need_cords", "wrong_point", "need_figure", "renumbered", "merged"]
def loose1 : List PySem.Str := ["straight_figure", "put_together", "MOST_TIMES", "need_power", "course_of", "power_and_leftovers", "power", "power_leftovers", "closed_places", "many_rings", "power_rings", "_law_mixed"]
def loose2 : List PySem.Str := ["_law_folded", "_law_draw", "_law_begun", "_law_of", "_law_like", "_law_named", "_law_straight", "_law_deed", "_law_upon", "_law_figure", "_law_deeds", "_law_row"]
def loose3 : List PySem.Str := ["_law_some_family", "_law_some_figure", "_law_rings", "_law_kinds", "_law_both", "_law_times"]
def loose : List PySem.Str := loose0 ++ loose1 ++ loose2 ++ loose3
set_option maxHeartbeats 0
theorem run (w : World) : HandSHeadRun.RunEq RR (PySem.W.view RR.prog [48]) hk ob 4000 loose w := by
  intro os
  kernel_rfl
theorem facts {P : Program} {w : World} {K : PySem.W.Frag} {h : Heap} {mg : Str → Option Value} {f : Addr} (X : K.In h) (G : h.Ns mainGlobals mg) (hfa : mg ("law" : Str) = some (.ref f)) (c : He.SaysD fas fns K) (cx : exs K = true) :
    ∃ fd : FuncData, (∀ (s : Shared) (v : Value), BindsTo s fd ⟨[v], []⟩ [("script", v)]) ∧ ∀ base : Heap, K.In base → base.Ns mainGlobals mg → FnG P w K mg base 6 f fd ["script"] (spLaw K) := by
  obtain ⟨fd_is_between, Q_is_between⟩ := c.def_ 0 (d := D_is_between) rfl
  have F_is_between := fun_of (st := s_is_between) Q_is_between
  obtain ⟨fd_need_number, Q_need_number⟩ := c.def_ 1 (d := D_need_number) rfl
  have F_need_number := fun_of (st := s_need_number) Q_need_number
  obtain ⟨fd_need_cords, Q_need_cords⟩ := c.def_ 2 (d := D_need_cords) rfl
  have F_need_cords := fun_of (st := s_need_cords) Q_need_cords
  obtain ⟨fd_wrong_point, Q_wrong_point⟩ := c.def_ 3 (d := D_wrong_point) rfl
  have F_wrong_point := fun_of (st := s_wrong_point) Q_wrong_point
  obtain ⟨fd_need_figure, Q_need_figure⟩ := c.def_ 4 (d := D_need_figure) rfl
  have F_need_figure := fun_of (st := s_need_figure) Q_need_figure
  obtain ⟨fd_renumbered, Q_renumbered⟩ := c.def_ 5 (d := D_renumbered) rfl
  have F_renumbered := fun_of (st := s_renumbered) Q_renumbered
  obtain ⟨fd_merged, Q_merged⟩ := c.def_ 6 (d := D_merged) rfl
  have F_merged := fun_of (st := s_merged) Q_merged
  obtain ⟨fd_straight_figure, Q_straight_figure⟩ := c.def_ 7 (d := D_straight_figure) rfl
  have F_straight_figure := fun_of (st := s_straight_figure) Q_straight_figure
  obtain ⟨fd_put_together, Q_put_together⟩ := c.def_ 8 (d := D_put_together) rfl
  have F_put_together := fun_of (st := s_put_together) Q_put_together
  obtain ⟨fd_need_power, Q_need_power⟩ := c.def_ 9 (d := D_need_power) rfl
  have F_need_power := fun_of (st := s_need_power) Q_need_power
  obtain ⟨fd_course_of, Q_course_of⟩ := c.def_ 10 (d := D_course_of) rfl
  have F_course_of := fun_of (st := s_course_of) Q_course_of
  obtain ⟨fd_power_and_leftovers, Q_power_and_leftovers⟩ := c.def_ 11 (d := D_power_and_leftovers) rfl
  have F_power_and_leftovers := fun_of (st := s_power_and_leftovers) Q_power_and_leftovers
  obtain ⟨fd_power, Q_power⟩ := c.def_ 12 (d := D_power) rfl
  have F_power := fun_of (st := s_power) Q_power
  obtain ⟨fd_power_leftovers, Q_power_leftovers⟩ := c.def_ 13 (d := D_power_leftovers) rfl
  have F_power_leftovers := fun_of (st := s_power_leftovers) Q_power_leftovers
  obtain ⟨fd_closed_places, Q_closed_places⟩ := c.def_ 14 (d := D_closed_places) rfl
  have F_closed_places := fun_of (st := s_closed_places) Q_closed_places
  obtain ⟨fd_many_rings, Q_many_rings⟩ := c.def_ 15 (d := D_many_rings) rfl
  have F_many_rings := fun_of (st := s_many_rings) Q_many_rings
  obtain ⟨fd_power_rings, Q_power_rings⟩ := c.def_ 16 (d := D_power_rings) rfl
  have F_power_rings := fun_of (st := s_power_rings) Q_power_rings
  obtain ⟨fd_law_mixed, Q_law_mixed⟩ := c.def_ 17 (d := D_law_mixed) rfl
  have F_law_mixed := fun_of (st := s_law_mixed) Q_law_mixed
  obtain ⟨fd_law_folded, Q_law_folded⟩ := c.def_ 18 (d := D_law_folded) rfl
  have F_law_folded := fun_of (st := s_law_folded) Q_law_folded
  obtain ⟨fd_law_draw, Q_law_draw⟩ := c.def_ 19 (d := D_law_draw) rfl
  have F_law_draw := fun_of (st := s_law_draw) Q_law_draw
  obtain ⟨fd_law_begun, Q_law_begun⟩ := c.def_ 20 (d := D_law_begun) rfl
  have F_law_begun := fun_of (st := s_law_begun) Q_law_begun
  obtain ⟨fd_law_of, Q_law_of⟩ := c.def_ 21 (d := D_law_of) rfl
  have F_law_of := fun_of (st := s_law_of) Q_law_of
  obtain ⟨fd_law_like, Q_law_like⟩ := c.def_ 22 (d := D_law_like) rfl
  have F_law_like := fun_of (st := s_law_like) Q_law_like
  obtain ⟨fd_law_named, Q_law_named⟩ := c.def_ 23 (d := D_law_named) rfl
  have F_law_named := fun_of (st := s_law_named) Q_law_named
  obtain ⟨fd_law_straight, Q_law_straight⟩ := c.def_ 24 (d := D_law_straight) rfl
  have F_law_straight := fun_of (st := s_law_straight) Q_law_straight
  obtain ⟨fd_law_deed, Q_law_deed⟩ := c.def_ 25 (d := D_law_deed) rfl
  have F_law_deed := fun_of (st := s_law_deed) Q_law_deed
  obtain ⟨fd_law_upon, Q_law_upon⟩ := c.def_ 26 (d := D_law_upon) rfl
  have F_law_upon := fun_of (st := s_law_upon) Q_law_upon
  obtain ⟨fd_law_figure, Q_law_figure⟩ := c.def_ 27 (d := D_law_figure) rfl
  have F_law_figure := fun_of (st := s_law_figure) Q_law_figure
  obtain ⟨fd_law_deeds, Q_law_deeds⟩ := c.def_ 28 (d := D_law_deeds) rfl
  have F_law_deeds := fun_of (st := s_law_deeds) Q_law_deeds
  obtain ⟨fd_law_row, Q_law_row⟩ := c.def_ 29 (d := D_law_row) rfl
  have F_law_row := fun_of (st := s_law_row) Q_law_row
  obtain ⟨fd_law_some_family, Q_law_some_family⟩ := c.def_ 30 (d := D_law_some_family) rfl
  have F_law_some_family := fun_of (st := s_law_some_family) Q_law_some_family
  obtain ⟨fd_law_some_figure, Q_law_some_figure⟩ := c.def_ 31 (d := D_law_some_figure) rfl
  have F_law_some_figure := fun_of (st := s_law_some_figure) Q_law_some_figure
  obtain ⟨fd_law_kinds, Q_law_kinds⟩ := c.def_ 32 (d := D_law_kinds) rfl
  have F_law_kinds := fun_of (st := s_law_kinds) Q_law_kinds
  obtain ⟨fd_law_rings, Q_law_rings⟩ := c.def_ 33 (d := D_law_rings) rfl
  have F_law_rings := fun_of (st := s_law_rings) Q_law_rings
  obtain ⟨fd_law_both, Q_law_both⟩ := c.def_ 34 (d := D_law_both) rfl
  have F_law_both := fun_of (st := s_law_both) Q_law_both
  obtain ⟨fd_law_times, Q_law_times⟩ := c.def_ 35 (d := D_law_times) rfl
  have F_law_times := fun_of (st := s_law_times) Q_law_times
  obtain ⟨fd_law, Q_law⟩ := c.def_ 36 (d := D_law) rfl
  have F_law := fun_of (st := s_law) Q_law
  have g_is_between : mg "is_between" = some (.ref (He.ga K "is_between")) := He.glo_ok X G (c.fact 0 (f := .glo "is_between") rfl)
  have g_need_number : mg "need_number" = some (.ref (He.ga K "need_number")) := He.glo_ok X G (c.fact 1 (f := .glo "need_number") rfl)
  have g_need_cords : mg "need_cords" = some (.ref (He.ga K "need_cords")) := He.glo_ok X G (c.fact 2 (f := .glo "need_cords") rfl)
  have g_wrong_point : mg "wrong_point" = some (.ref (He.ga K "wrong_point")) := He.glo_ok X G (c.fact 3 (f := .glo "wrong_point") rfl)
  have g_need_figure : mg "need_figure" = some (.ref (He.ga K "need_figure")) := He.glo_ok X G (c.fact 4 (f := .glo "need_figure") rfl)
  have g_renumbered : mg "renumbered" = some (.ref (He.ga K "renumbered")) := He.glo_ok X G (c.fact 5 (f := .glo "renumbered") rfl)
  have g_merged : mg "merged" = some (.ref (He.ga K "merged")) := He.glo_ok X G (c.fact 6 (f := .glo "merged") rfl)
  have g_straight_figure : mg "straight_figure" = some (.ref (He.ga K "straight_figure")) := He.glo_ok X G (c.fact 7 (f := .glo "straight_figure") rfl)
  have g_put_together : mg "put_together" = some (.ref (He.ga K "put_together")) := He.glo_ok X G (c.fact 8 (f := .glo "put_together") rfl)
  have g_need_power : mg "need_power" = some (.ref (He.ga K "need_power")) := He.glo_ok X G (c.fact 9 (f := .glo "need_power") rfl)
  have g_course_of : mg "course_of" = some (.ref (He.ga K "course_of")) := He.glo_ok X G (c.fact 10 (f := .glo "course_of") rfl)
  have g_power_and_leftovers : mg "power_and_leftovers" = some (.ref (He.ga K "power_and_leftovers")) := He.glo_ok X G (c.fact 11 (f := .glo "power_and_leftovers") rfl)
  have g_power : mg "power" = some (.ref (He.ga K "power")) := He.glo_ok X G (c.fact 12 (f := .glo "power") rfl)
  have g_power_leftovers : mg "power_leftovers" = some (.ref (He.ga K "power_leftovers")) := He.glo_ok X G (c.fact 13 (f := .glo "power_leftovers") rfl)
  have g_closed_places : mg "closed_places" = some (.ref (He.ga K "closed_places")) := He.glo_ok X G (c.fact 14 (f := .glo "closed_places") rfl)
  have g_many_rings : mg "many_rings" = some (.ref (He.ga K "many_rings")) := He.glo_ok X G (c.fact 15 (f := .glo "many_rings") rfl)
  have g_power_rings : mg "power_rings" = some (.ref (He.ga K "power_rings")) := He.glo_ok X G (c.fact 16 (f := .glo "power_rings") rfl)
  have g_law_mixed : mg "_law_mixed" = some (.ref (He.ga K "_law_mixed")) := He.glo_ok X G (c.fact 17 (f := .glo "_law_mixed") rfl)
  have g_law_folded : mg "_law_folded" = some (.ref (He.ga K "_law_folded")) := He.glo_ok X G (c.fact 18 (f := .glo "_law_folded") rfl)
  have g_law_draw : mg "_law_draw" = some (.ref (He.ga K "_law_draw")) := He.glo_ok X G (c.fact 19 (f := .glo "_law_draw") rfl)
  have g_law_begun : mg "_law_begun" = some (.ref (He.ga K "_law_begun")) := He.glo_ok X G (c.fact 20 (f := .glo "_law_begun") rfl)
  have g_law_of : mg "_law_of" = some (.ref (He.ga K "_law_of")) := He.glo_ok X G (c.fact 21 (f := .glo "_law_of") rfl)
  have g_law_like : mg "_law_like" = some (.ref (He.ga K "_law_like")) := He.glo_ok X G (c.fact 22 (f := .glo "_law_like") rfl)
  have g_law_named : mg "_law_named" = some (.ref (He.ga K "_law_named")) := He.glo_ok X G (c.fact 23 (f := .glo "_law_named") rfl)
  have g_law_straight : mg "_law_straight" = some (.ref (He.ga K "_law_straight")) := He.glo_ok X G (c.fact 24 (f := .glo "_law_straight") rfl)
  have g_law_deed : mg "_law_deed" = some (.ref (He.ga K "_law_deed")) := He.glo_ok X G (c.fact 25 (f := .glo "_law_deed") rfl)
  have g_law_upon : mg "_law_upon" = some (.ref (He.ga K "_law_upon")) := He.glo_ok X G (c.fact 26 (f := .glo "_law_upon") rfl)
  have g_law_figure : mg "_law_figure" = some (.ref (He.ga K "_law_figure")) := He.glo_ok X G (c.fact 27 (f := .glo "_law_figure") rfl)
  have g_law_deeds : mg "_law_deeds" = some (.ref (He.ga K "_law_deeds")) := He.glo_ok X G (c.fact 28 (f := .glo "_law_deeds") rfl)
  have g_law_row : mg "_law_row" = some (.ref (He.ga K "_law_row")) := He.glo_ok X G (c.fact 29 (f := .glo "_law_row") rfl)
  have g_law_some_family : mg "_law_some_family" = some (.ref (He.ga K "_law_some_family")) := He.glo_ok X G (c.fact 30 (f := .glo "_law_some_family") rfl)
  have g_law_some_figure : mg "_law_some_figure" = some (.ref (He.ga K "_law_some_figure")) := He.glo_ok X G (c.fact 31 (f := .glo "_law_some_figure") rfl)
  have g_law_kinds : mg "_law_kinds" = some (.ref (He.ga K "_law_kinds")) := He.glo_ok X G (c.fact 32 (f := .glo "_law_kinds") rfl)
  have g_law_rings : mg "_law_rings" = some (.ref (He.ga K "_law_rings")) := He.glo_ok X G (c.fact 33 (f := .glo "_law_rings") rfl)
  have g_law_both : mg "_law_both" = some (.ref (He.ga K "_law_both")) := He.glo_ok X G (c.fact 34 (f := .glo "_law_both") rfl)
  have g_law_times : mg "_law_times" = some (.ref (He.ga K "_law_times")) := He.glo_ok X G (c.fact 35 (f := .glo "_law_times") rfl)
  have g_law : mg "law" = some (.ref (He.ga K "law")) := He.glo_ok X G (c.fact 36 (f := .glo "law") rfl)
  have B : Bt K mg := { b_all := He.free_ok X G (c.fact 37 (f := .free "all") rfl), b_any := He.free_ok X G (c.fact 38 (f := .free "any") rfl), b_bool := He.free_ok X G (c.fact 39 (f := .free "bool") rfl), b_dict := He.free_ok X G (c.fact 40 (f := .free "dict") rfl), b_divmod := He.free_ok X G (c.fact 41 (f := .free "divmod") rfl), b_enumerate := He.free_ok X G (c.fact 42 (f := .free "enumerate") rfl), b_int := He.free_ok X G (c.fact 43 (f := .free "int") rfl), b_isinstance := He.free_ok X G (c.fact 44 (f := .free "isinstance") rfl), b_len := He.free_ok X G (c.fact 45 (f := .free "len") rfl), b_list := He.free_ok X G (c.fact 46 (f := .free "list") rfl), b_max := He.free_ok X G (c.fact 47 (f := .free "max") rfl), b_min := He.free_ok X G (c.fact 48 (f := .free "min") rfl), b_range := He.free_ok X G (c.fact 49 (f := .free "range") rfl), b_repr := He.free_ok X G (c.fact 50 (f := .free "repr") rfl), b_set := He.free_ok X G (c.fact 51 (f := .free "set") rfl), b_sorted := He.free_ok X G (c.fact 52 (f := .free "sorted") rfl), b_str := He.free_ok X G (c.fact 53 (f := .free "str") rfl), b_sum := He.free_ok X G (c.fact 54 (f := .free "sum") rfl), b_tuple := He.free_ok X G (c.fact 55 (f := .free "tuple") rfl), b_type := He.free_ok X G (c.fact 56 (f := .free "type") rfl), b_zip := He.free_ok X G (c.fact 57 (f := .free "zip") rfl), c_MOST_CORDS := He.int_ok X G (c.fact 58 (f := .int "MOST_CORDS" 5) rfl), c_MOST_TIMES := He.int_ok X G (c.fact 59 (f := .int "MOST_TIMES" 1000000000) rfl) }
  have e := hfa.symm.trans g_law
  cases e
  have b_law := FunD.bindsA (ps := ["script"]) Q_law fun _ _ _ _ _ _ us hl => match us, hl with | [_], _ => rfl
  refine ⟨fd_law, fun s v => b_law s [v] rfl, fun base _ _ => ?_⟩
  have G_is_between : FnG P w K mg base 1 (He.ga K "is_between") fd_is_between ["value", "least", "most"] (spD K .v 3 m_is_between) := ok_is_between F_is_between B 
  have b_is_between := F_is_between.binds (ps := ["value", "least", "most"]) fun _ _ _ _ _ _ us hl => match us, hl with | [_, _, _], _ => rfl
  have C_is_between : Cal P w K mg base "is_between" 1 ["value", "least", "most"] (spD K .v 3 m_is_between) := ⟨_, _, G_is_between, b_is_between, g_is_between, F_is_between.kp⟩
  have G_need_number : FnG P w K mg base 2 (He.ga K "need_number") fd_need_number ["value", "least", "most"] (spD K .v 3 m_need_number) := ok_need_number F_need_number B C_is_between
  have b_need_number := F_need_number.binds (ps := ["value", "least", "most"]) fun _ _ _ _ _ _ us hl => match us, hl with | [_, _, _], _ => rfl
  have C_need_number : Cal P w K mg base "need_number" 2 ["value", "least", "most"] (spD K .v 3 m_need_number) := ⟨_, _, G_need_number, b_need_number, g_need_number, F_need_number.kp⟩
  have G_need_cords : FnG P w K mg base 2 (He.ga K "need_cords") fd_need_cords ["cords"] (spD K .v 1 m_need_cords) := ok_need_cords F_need_cords B C_is_between
  have b_need_cords := F_need_cords.binds (ps := ["cords"]) fun _ _ _ _ _ _ us hl => match us, hl with | [_], _ => rfl
  have C_need_cords : Cal P w K mg base "need_cords" 2 ["cords"] (spD K .v 1 m_need_cords) := ⟨_, _, G_need_cords, b_need_cords, g_need_cords, F_need_cords.kp⟩
  have G_wrong_point : FnG P w K mg base 2 (He.ga K "wrong_point") fd_wrong_point ["figure"] (spD K .v 1 m_wrong_point) := ok_wrong_point F_wrong_point B C_is_between
  have b_wrong_point := F_wrong_point.binds (ps := ["figure"]) fun _ _ _ _ _ _ us hl => match us, hl with | [_], _ => rfl
  have C_wrong_point : Cal P w K mg base "wrong_point" 2 ["figure"] (spD K .v 1 m_wrong_point) := ⟨_, _, G_wrong_point, b_wrong_point, g_wrong_point, F_wrong_point.kp⟩
  have G_need_figure : FnG P w K mg base 3 (He.ga K "need_figure") fd_need_figure ["cords", "figure"] (spD K .v 2 m_need_figure) := ok_need_figure F_need_figure B C_wrong_point
  have b_need_figure := F_need_figure.binds (ps := ["cords", "figure"]) fun _ _ _ _ _ _ us hl => match us, hl with | [_, _], _ => rfl
  have C_need_figure : Cal P w K mg base "need_figure" 3 ["cords", "figure"] (spD K .v 2 m_need_figure) := ⟨_, _, G_need_figure, b_need_figure, g_need_figure, F_need_figure.kp⟩
  have G_renumbered : FnG P w K mg base 1 (He.ga K "renumbered") fd_renumbered ["labels"] (spD K .v 1 m_renumbered) := ok_renumbered F_renumbered B 
  have b_renumbered := F_renumbered.binds (ps := ["labels"]) fun _ _ _ _ _ _ us hl => match us, hl with | [_], _ => rfl
  have C_renumbered : Cal P w K mg base "renumbered" 1 ["labels"] (spD K .v 1 m_renumbered) := ⟨_, _, G_renumbered, b_renumbered, g_renumbered, F_renumbered.kp⟩
  have G_merged : FnG P w K mg base 1 (He.ga K "merged") fd_merged ["labels", "near", "far"] (spD K .v 3 m_merged) := ok_merged F_merged B 
  have b_merged := F_merged.binds (ps := ["labels", "near", "far"]) fun _ _ _ _ _ _ us hl => match us, hl with | [_, _, _], _ => rfl
  have C_merged : Cal P w K mg base "merged" 1 ["labels", "near", "far"] (spD K .v 3 m_merged) := ⟨_, _, G_merged, b_merged, g_merged, F_merged.kp⟩
  have G_straight_figure : FnG P w K mg base 1 (He.ga K "straight_figure") fd_straight_figure ["cords"] (spD K .v 1 m_straight_figure) := ok_straight_figure F_straight_figure B 
  have b_straight_figure := F_straight_figure.binds (ps := ["cords"]) fun _ _ _ _ _ _ us hl => match us, hl with | [_], _ => rfl
  have C_straight_figure : Cal P w K mg base "straight_figure" 1 ["cords"] (spD K .v 1 m_straight_figure) := ⟨_, _, G_straight_figure, b_straight_figure, g_straight_figure, F_straight_figure.kp⟩
  have G_put_together : FnG P w K mg base 2 (He.ga K "put_together") fd_put_together ["cords", "figure", "other"] (spD K .v 3 m_put_together) := ok_put_together F_put_together B C_merged C_renumbered
  have b_put_together := F_put_together.binds (ps := ["cords", "figure", "other"]) fun _ _ _ _ _ _ us hl => match us, hl with | [_, _, _], _ => rfl
  have C_put_together : Cal P w K mg base "put_together" 2 ["cords", "figure", "other"] (spD K .v 3 m_put_together) := ⟨_, _, G_put_together, b_put_together, g_put_together, F_put_together.kp⟩
  have G_need_power : FnG P w K mg base 4 (He.ga K "need_power") fd_need_power ["cords", "figure", "many"] (spD K .v 3 m_need_power) := ok_need_power F_need_power B C_need_cords C_need_figure C_need_number
  have b_need_power := F_need_power.binds (ps := ["cords", "figure", "many"]) fun _ _ _ _ _ _ us hl => match us, hl with | [_, _, _], _ => rfl
  have C_need_power : Cal P w K mg base "need_power" 4 ["cords", "figure", "many"] (spD K .v 3 m_need_power) := ⟨_, _, G_need_power, b_need_power, g_need_power, F_need_power.kp⟩
  have G_course_of : FnG P w K mg base 3 (He.ga K "course_of") fd_course_of ["cords", "figure"] (spD K .v 2 m_course_of) := ok_course_of F_course_of B C_straight_figure C_put_together
  have b_course_of := F_course_of.binds (ps := ["cords", "figure"]) fun _ _ _ _ _ _ us hl => match us, hl with | [_, _], _ => rfl
  have C_course_of : Cal P w K mg base "course_of" 3 ["cords", "figure"] (spD K .v 2 m_course_of) := ⟨_, _, G_course_of, b_course_of, g_course_of, F_course_of.kp⟩
  have G_power_and_leftovers : FnG P w K mg base 4 (He.ga K "power_and_leftovers") fd_power_and_leftovers ["cords", "figure", "many"] (spD K .v 3 m_power_and_leftovers) := ok_power_and_leftovers F_power_and_leftovers B C_course_of
  have b_power_and_leftovers := F_power_and_leftovers.binds (ps := ["cords", "figure", "many"]) fun _ _ _ _ _ _ us hl => match us, hl with | [_, _, _], _ => rfl
  have C_power_and_leftovers : Cal P w K mg base "power_and_leftovers" 4 ["cords", "figure", "many"] (spD K .v 3 m_power_and_leftovers) := ⟨_, _, G_power_and_leftovers, b_power_and_leftovers, g_power_and_leftovers, F_power_and_leftovers.kp⟩
  have G_power : FnG P w K mg base 5 (He.ga K "power") fd_power ["cords", "figure", "many"] (spD K .v 3 m_power) := ok_power F_power B C_need_power C_power_and_leftovers
  have b_power := F_power.binds (ps := ["cords", "figure", "many"]) fun _ _ _ _ _ _ us hl => match us, hl with | [_, _, _], _ => rfl
  have C_power : Cal P w K mg base "power" 5 ["cords", "figure", "many"] (spD K .v 3 m_power) := ⟨_, _, G_power, b_power, g_power, F_power.kp⟩
  have G_power_leftovers : FnG P w K mg base 5 (He.ga K "power_leftovers") fd_power_leftovers ["cords", "figure", "many"] (spD K .v 3 m_power_leftovers) := ok_power_leftovers F_power_leftovers B C_need_power C_power_and_leftovers
  have b_power_leftovers := F_power_leftovers.binds (ps := ["cords", "figure", "many"]) fun _ _ _ _ _ _ us hl => match us, hl with | [_, _, _], _ => rfl
  have C_power_leftovers : Cal P w K mg base "power_leftovers" 5 ["cords", "figure", "many"] (spD K .v 3 m_power_leftovers) := ⟨_, _, G_power_leftovers, b_power_leftovers, g_power_leftovers, F_power_leftovers.kp⟩
  have G_closed_places : FnG P w K mg base 2 (He.ga K "closed_places") fd_closed_places ["cords", "figure"] (spD K .v 2 m_closed_places) := ok_closed_places F_closed_places B C_merged C_renumbered
  have b_closed_places := F_closed_places.binds (ps := ["cords", "figure"]) fun _ _ _ _ _ _ us hl => match us, hl with | [_, _], _ => rfl
  have C_closed_places : Cal P w K mg base "closed_places" 2 ["cords", "figure"] (spD K .v 2 m_closed_places) := ⟨_, _, G_closed_places, b_closed_places, g_closed_places, F_closed_places.kp⟩
  have G_many_rings : FnG P w K mg base 3 (He.ga K "many_rings") fd_many_rings ["cords", "figure"] (spD K .v 2 m_many_rings) := ok_many_rings F_many_rings B C_closed_places
  have b_many_rings := F_many_rings.binds (ps := ["cords", "figure"]) fun _ _ _ _ _ _ us hl => match us, hl with | [_, _], _ => rfl
  have C_many_rings : Cal P w K mg base "many_rings" 3 ["cords", "figure"] (spD K .v 2 m_many_rings) := ⟨_, _, G_many_rings, b_many_rings, g_many_rings, F_many_rings.kp⟩
  have G_power_rings : FnG P w K mg base 5 (He.ga K "power_rings") fd_power_rings ["cords", "figure", "many"] (spD K .v 3 m_power_rings) := ok_power_rings F_power_rings B C_need_power C_power_and_leftovers C_many_rings
  have b_power_rings := F_power_rings.binds (ps := ["cords", "figure", "many"]) fun _ _ _ _ _ _ us hl => match us, hl with | [_, _, _], _ => rfl
  have C_power_rings : Cal P w K mg base "power_rings" 5 ["cords", "figure", "many"] (spD K .v 3 m_power_rings) := ⟨_, _, G_power_rings, b_power_rings, g_power_rings, F_power_rings.kp⟩
  have Q_P_power_rings_0 : CalK P w K mg base "power_rings" 5 ["cords", "figure", "many"] (reo 3 [2, 1, 0] .none) (reo 3 [2, 1, 0] .non) (spD K .v 3 m_power_rings) ["many", "figure", "cords"] := calK_reo F_power_rings G_power_rings g_power_rings (by decide) fun _ _ _ _ _ _ us hl => match us, hl with | [_, _, _], _ => rfl
  have G_law_mixed : FnG P w K mg base 1 (He.ga K "_law_mixed") fd_law_mixed ["cell", "n"] (spD K .v 2 m_law_mixed) := ok_law_mixed F_law_mixed B 
  have b_law_mixed := F_law_mixed.binds (ps := ["cell", "n"]) fun _ _ _ _ _ _ us hl => match us, hl with | [_, _], _ => rfl
  have C_law_mixed : Cal P w K mg base "_law_mixed" 1 ["cell", "n"] (spD K .v 2 m_law_mixed) := ⟨_, _, G_law_mixed, b_law_mixed, g_law_mixed, F_law_mixed.kp⟩
  have G_law_folded : FnG P w K mg base 1 (He.ga K "_law_folded") fd_law_folded ["script"] (spD K .o 1 m_law_folded) := ok_law_folded F_law_folded B 
  have b_law_folded := F_law_folded.binds (ps := ["script"]) fun _ _ _ _ _ _ us hl => match us, hl with | [_], _ => rfl
  have C_law_folded : Cal P w K mg base "_law_folded" 1 ["script"] (spD K .o 1 m_law_folded) := ⟨_, _, G_law_folded, b_law_folded, g_law_folded, F_law_folded.kp⟩
  have G_law_draw : FnG P w K mg base 2 (He.ga K "_law_draw") fd_law_draw ["m", "limit"] (spD K .v 2 m_law_draw) := ok_law_draw F_law_draw B C_law_mixed
  have b_law_draw := F_law_draw.binds (ps := ["m", "limit"]) fun _ _ _ _ _ _ us hl => match us, hl with | [_, _], _ => rfl
  have C_law_draw : Cal P w K mg base "_law_draw" 2 ["m", "limit"] (spD K .v 2 m_law_draw) := ⟨_, _, G_law_draw, b_law_draw, g_law_draw, F_law_draw.kp⟩
  have G_law_begun : FnG P w K mg base 2 (He.ga K "_law_begun") fd_law_begun ["script"] (spBegun K) := ok_law_begun F_law_begun B C_law_folded
  have b_law_begun := F_law_begun.binds (ps := ["script"]) fun _ _ _ _ _ _ us hl => match us, hl with | [_], _ => rfl
  have C_law_begun : Cal P w K mg base "_law_begun" 2 ["script"] (spBegun K) := ⟨_, _, G_law_begun, b_law_begun, g_law_begun, F_law_begun.kp⟩
  have G_law_of : FnG P w K mg base 3 (He.ga K "_law_of") fd_law_of ["m", "some"] (spD K .v 2 m_law_of) := ok_law_of F_law_of B C_law_draw
  have b_law_of := F_law_of.binds (ps := ["m", "some"]) fun _ _ _ _ _ _ us hl => match us, hl with | [_, _], _ => rfl
  have C_law_of : Cal P w K mg base "_law_of" 3 ["m", "some"] (spD K .v 2 m_law_of) := ⟨_, _, G_law_of, b_law_of, g_law_of, F_law_of.kp⟩
  have G_law_like : FnG P w K mg base 1 (He.ga K "_law_like") fd_law_like ["got", "due"] (spD K .v 2 m_law_like) := ok_law_like F_law_like B 
  have b_law_like := F_law_like.binds (ps := ["got", "due"]) fun _ _ _ _ _ _ us hl => match us, hl with | [_, _], _ => rfl
  have C_law_like : Cal P w K mg base "_law_like" 1 ["got", "due"] (spD K .v 2 m_law_like) := ⟨_, _, G_law_like, b_law_like, g_law_like, F_law_like.kp⟩
  have G_law_named : FnG P w K mg base 1 (He.ga K "_law_named") fd_law_named ["marks"] (spD K .v 1 m_law_named) := ok_law_named F_law_named B 
  have b_law_named := F_law_named.binds (ps := ["marks"]) fun _ _ _ _ _ _ us hl => match us, hl with | [_], _ => rfl
  have C_law_named : Cal P w K mg base "_law_named" 1 ["marks"] (spD K .v 1 m_law_named) := ⟨_, _, G_law_named, b_law_named, g_law_named, F_law_named.kp⟩
  have G_law_straight : FnG P w K mg base 1 (He.ga K "_law_straight") fd_law_straight ["cords_so"] (spD K .v 1 m_law_straight) := ok_law_straight F_law_straight B 
  have b_law_straight := F_law_straight.binds (ps := ["cords_so"]) fun _ _ _ _ _ _ us hl => match us, hl with | [_], _ => rfl
  have C_law_straight : Cal P w K mg base "_law_straight" 1 ["cords_so"] (spD K .v 1 m_law_straight) := ⟨_, _, G_law_straight, b_law_straight, g_law_straight, F_law_straight.kp⟩
  have G_law_deed : FnG P w K mg base 2 (He.ga K "_law_deed") fd_law_deed ["cords_so", "deed"] (spD K .v 2 m_law_deed) := ok_law_deed F_law_deed B C_law_named
  have b_law_deed := F_law_deed.binds (ps := ["cords_so", "deed"]) fun _ _ _ _ _ _ us hl => match us, hl with | [_, _], _ => rfl
  have C_law_deed : Cal P w K mg base "_law_deed" 2 ["cords_so", "deed"] (spD K .v 2 m_law_deed) := ⟨_, _, G_law_deed, b_law_deed, g_law_deed, F_law_deed.kp⟩
  have G_law_upon : FnG P w K mg base 2 (He.ga K "_law_upon") fd_law_upon ["cords_so", "near", "far"] (spD K .v 3 m_law_upon) := ok_law_upon F_law_upon B C_law_named
  have b_law_upon := F_law_upon.binds (ps := ["cords_so", "near", "far"]) fun _ _ _ _ _ _ us hl => match us, hl with | [_, _, _], _ => rfl
  have C_law_upon : Cal P w K mg base "_law_upon" 2 ["cords_so", "near", "far"] (spD K .v 3 m_law_upon) := ⟨_, _, G_law_upon, b_law_upon, g_law_upon, F_law_upon.kp⟩
  have G_law_figure : FnG P w K mg base 3 (He.ga K "_law_figure") fd_law_figure ["cords_so", "row_so"] (spD K .v 2 m_law_figure) := ok_law_figure F_law_figure B C_law_straight C_law_deed C_law_upon
  have b_law_figure := F_law_figure.binds (ps := ["cords_so", "row_so"]) fun _ _ _ _ _ _ us hl => match us, hl with | [_, _], _ => rfl
  have C_law_figure : Cal P w K mg base "_law_figure" 3 ["cords_so", "row_so"] (spD K .v 2 m_law_figure) := ⟨_, _, G_law_figure, b_law_figure, g_law_figure, F_law_figure.kp⟩
  have G_law_deeds : FnG P w K mg base 1 (He.ga K "_law_deeds") fd_law_deeds ["cords_so", "family_so"] (spD K .v 2 m_law_deeds) := ok_law_deeds F_law_deeds B 
  have b_law_deeds := F_law_deeds.binds (ps := ["cords_so", "family_so"]) fun _ _ _ _ _ _ us hl => match us, hl with | [_, _], _ => rfl
  have C_law_deeds : Cal P w K mg base "_law_deeds" 1 ["cords_so", "family_so"] (spD K .v 2 m_law_deeds) := ⟨_, _, G_law_deeds, b_law_deeds, g_law_deeds, F_law_deeds.kp⟩
  have G_law_row : FnG P w K mg base 4 (He.ga K "_law_row") fd_law_row ["m", "cords_so", "family_so", "most"] (spD K .v 4 m_law_row) := ok_law_row F_law_row B C_law_deeds C_law_draw C_law_of
  have b_law_row := F_law_row.binds (ps := ["m", "cords_so", "family_so", "most"]) fun _ _ _ _ _ _ us hl => match us, hl with | [_, _, _, _], _ => rfl
  have C_law_row : Cal P w K mg base "_law_row" 4 ["m", "cords_so", "family_so", "most"] (spD K .v 4 m_law_row) := ⟨_, _, G_law_row, b_law_row, g_law_row, F_law_row.kp⟩
  have G_law_some_family : FnG P w K mg base 4 (He.ga K "_law_some_family") fd_law_some_family ["m"] (spD K .v 1 m_law_some_family) := ok_law_some_family F_law_some_family B C_law_draw C_law_of
  have b_law_some_family := F_law_some_family.binds (ps := ["m"]) fun _ _ _ _ _ _ us hl => match us, hl with | [_], _ => rfl
  have C_law_some_family : Cal P w K mg base "_law_some_family" 4 ["m"] (spD K .v 1 m_law_some_family) := ⟨_, _, G_law_some_family, b_law_some_family, g_law_some_family, F_law_some_family.kp⟩
  have G_law_some_figure : FnG P w K mg base 3 (He.ga K "_law_some_figure") fd_law_some_figure ["m", "cords_so"] (spD K .v 2 m_law_some_figure) := ok_law_some_figure F_law_some_figure B C_law_draw C_law_named
  have b_law_some_figure := F_law_some_figure.binds (ps := ["m", "cords_so"]) fun _ _ _ _ _ _ us hl => match us, hl with | [_, _], _ => rfl
  have C_law_some_figure : Cal P w K mg base "_law_some_figure" 3 ["m", "cords_so"] (spD K .v 2 m_law_some_figure) := ⟨_, _, G_law_some_figure, b_law_some_figure, g_law_some_figure, F_law_some_figure.kp⟩
  have G_law_kinds : FnG P w K mg base 1 (He.ga K "_law_kinds") fd_law_kinds ["marks"] (spD K .v 1 m_law_kinds) := ok_law_kinds F_law_kinds B 
  have b_law_kinds := F_law_kinds.binds (ps := ["marks"]) fun _ _ _ _ _ _ us hl => match us, hl with | [_], _ => rfl
  have C_law_kinds : Cal P w K mg base "_law_kinds" 1 ["marks"] (spD K .v 1 m_law_kinds) := ⟨_, _, G_law_kinds, b_law_kinds, g_law_kinds, F_law_kinds.kp⟩
  have G_law_rings : FnG P w K mg base 2 (He.ga K "_law_rings") fd_law_rings ["cords_so", "figure_so"] (spD K .v 2 m_law_rings) := ok_law_rings F_law_rings B C_law_kinds
  have b_law_rings := F_law_rings.binds (ps := ["cords_so", "figure_so"]) fun _ _ _ _ _ _ us hl => match us, hl with | [_, _], _ => rfl
  have C_law_rings : Cal P w K mg base "_law_rings" 2 ["cords_so", "figure_so"] (spD K .v 2 m_law_rings) := ⟨_, _, G_law_rings, b_law_rings, g_law_rings, F_law_rings.kp⟩
  have G_law_both : FnG P w K mg base 3 (He.ga K "_law_both") fd_law_both ["cords_so", "near", "far"] (spD K .v 3 m_law_both) := ok_law_both F_law_both B C_law_upon
  have b_law_both := F_law_both.binds (ps := ["cords_so", "near", "far"]) fun _ _ _ _ _ _ us hl => match us, hl with | [_, _, _], _ => rfl
  have C_law_both : Cal P w K mg base "_law_both" 3 ["cords_so", "near", "far"] (spD K .v 3 m_law_both) := ⟨_, _, G_law_both, b_law_both, g_law_both, F_law_both.kp⟩
  have G_law_times : FnG P w K mg base 4 (He.ga K "_law_times") fd_law_times ["cords_so", "figure_so", "many_so"] (spD K .v 3 m_law_times) := ok_law_times F_law_times B C_law_straight C_law_both
  have b_law_times := F_law_times.binds (ps := ["cords_so", "figure_so", "many_so"]) fun _ _ _ _ _ _ us hl => match us, hl with | [_, _, _], _ => rfl
  have C_law_times : Cal P w K mg base "_law_times" 4 ["cords_so", "figure_so", "many_so"] (spD K .v 3 m_law_times) := ⟨_, _, G_law_times, b_law_times, g_law_times, F_law_times.kp⟩
  exact ok_law F_law B rest_ok C_law_begun C_law_draw C_law_some_figure C_law_some_family C_law_row C_law_figure C_law_straight C_power_leftovers C_power C_power_rings C_law_rings C_law_like C_law_upon C_law_times Q_P_power_rings_0
end T27
open PySem PySem.W PySem.Calls PyProof.Rows
set_option maxRecDepth 100000 in
set_option maxHeartbeats 0 in
theorem PySem.Challenge.cw_hookedcords_k27_whole_leftovers_of_great_holds : PySem.Challenge.rw_hookedcords_k27_whole_leftovers_of_great.Holds := by
  w_on; o_law
  refine HandSHeadRun.head_any (r := T27.RR) (q := view T27.RR.prog [48]) (H := T27.hk) (ob := T27.ob) (M := 4000) (loose := T27.loose) (d := HandSHeadRun.topDef T27.RR.prog 48) (kwd := []) T27.ob_eq
    (by kernel_rfl) (fun s => by kernel_rfl) T27.run (by kernel_rfl) (by kernel_rfl) (by kernel_rfl) (by rfl) (by first | assumption | decide +kernel) (by decide +kernel) ⟨rfl, rfl, rfl, rfl, rfl, by decide +kernel⟩ ?hw ?hc
  case hw => w_witness2
  case hc =>
    refine DL.walk_GE (l := PySem.Challenge.rw_hookedcords_k27_whole_leftovers_of_great) (k := 6) (y := "script") rfl (by kernel_rfl) ⟨rfl, by decide, by decide⟩ ?F
    intro w mg fa h Y G hmg0
    obtain ⟨K, KX, c, cx⟩ := Y
    have hmg : mg ("law" : PySem.Str) = some (.ref fa) := by
      have e : (HandSHeadRun.topDef T27.RR.prog 48).name = ("law" : PySem.Str) := by kernel_rfl
      rw [← e]
      exact hmg0
    obtain ⟨fd, hb, hF⟩ := T27.facts (P := (PySem.Challenge.rw_hookedcords_k27_whole_leftovers_of_great).prog) (w := w) KX G hmg c cx
    exact ⟨K, fd, KX, hb, hF⟩
end
