import PyProof.Rows.All
import Wide.All
import OpenK.AllK
import Wide.FinOn
import HandS.ForMost
import HandS.Lambda
import HandS.TupAny
import HandS.TupMul
import KE.GoesMore
import KE.GoesEnum
import HandS.More
import HandS.Conv
import HandS.Style
import PyProof.WalksMore
import PyProof.WalkInts
import HandS.Strs
import HandS.Zip
import HandS.IsInst
import HandS.EndBits
import HandS.HeadHook2
import HandS.HeadEnd
import HandS.Head2
import PyProof.Rows.RuleDivmod
import HandS.DictComp
import PyProof.SeqIndex
import KE.SortData
import HandS.ExcInit
import HandS.ExcField
import HandS.TryMany
import HandS.ExcOwn
import KE.KDflt
import HandS.EndTab
import HandS.HeadHook4
import HandS.SetBool
import HandS.SetFor
import HandS.TupSets
import KE.KDictZip
import HandS.ListItems
import HandS.TupLen
import PyProof.Rows.TupTab
import KE.KDictKeyed
import KE.KDictDisplayH
import KE.KDictCopyH
import HandS.NoneIn
import HandS.SetKeys
import KE.KTupSum
import HandS.ExcIs
import KE.KExcIs
import PyProof.StrLawsIn
import HandS.TupLe
import PyProof.EnumIter
import KE.KeyNested
import HandS.SetIn
import KE.DataMinMax
import PySem.Challenge.RW_hookedcords_k56_whole_fillings_numbered
set_option Elab.async false
section
set_option linter.all false
set_option maxRecDepth 100000
namespace DL
open PySem PySem.Spec PyProof.Rows L2
abbrev D := PyData
inductive Tr (α : Type) : Type
  | ret (a : α)
  | fail
  | draw (n : Nat) (k : Nat → Tr α)
namespace Tr
def bind {α β : Type} : Tr α → (α → Tr β) → Tr β
  | .ret a, f => f a
  | .fail, _ => .fail
  | .draw n k, f => .draw n fun i => (k i).bind f
/-- P of every end, with what is left of b draws -/
def All {α : Type} : Tr α → Nat → (α → Nat → Prop) → Prop
  | .ret a, b, P => P a b
  | .fail, _, _ => False
  | .draw n k, b, P => ∃ c, b = c + 1 ∧ ∀ i, i < n → (k i).All c P
theorem All_bind {α β : Type} (t : Tr α) (f : α → Tr β) (P : β → Nat → Prop) : ∀ b, (t.bind f).All b P ↔ t.All b fun a c => (f a).All c P := by
  induction t with
  | ret a => intro b; exact Iff.rfl
  | fail => intro b; exact Iff.rfl
  | draw n k ih =>
    intro b
    constructor
    · rintro ⟨c, e, h⟩
      exact ⟨c, e, fun i hi => (ih i c).mp (h i hi)⟩
    · rintro ⟨c, e, h⟩
      exact ⟨c, e, fun i hi => (ih i c).mpr (h i hi)⟩
theorem All_mono {α : Type} {P P' : α → Nat → Prop} : ∀ {t : Tr α} {b : Nat}, t.All b P → (∀ a c, P a c → P' a c) → t.All b P'
  | .ret a, b, h, k => k a b h
  | .fail, _, h, _ => h
  | .draw n f, b, ⟨c, e, h⟩, k => ⟨c, e, fun i hi => All_mono (h i hi) k⟩
def ofOpt {α : Type} : Option α → Tr α
  | some a => .ret a
  | none => .fail
end Tr
section
variable (K : PySem.W.Frag)
/-- the written tuples -/
def TK (a : Addr) (xs : List V) : Prop := ∃ (o : Obj) (its : Array Value) (n : Nat), K.lookup a = some o ∧ o.cls = .type "tuple" ∧ o.dict = none ∧ o.data = .seq its n ∧ its.size ≤ sizeLine ∧ Vals xs its.toList
/-- the written lists -/
def LK (a : Addr) (xs : List V) : Prop := ∃ (o : Obj) (its : Array Value) (n : Nat), K.lookup a = some o ∧ o.cls = .type "list" ∧ o.dict = none ∧ o.data = .seq its n ∧ its.size ≤ sizeLine ∧ Vals xs its.toList
/-- a list that nobody changes -/
def SqS (N : Addr → Prop) (H : Hp) (a : Addr) (xs : List V) : Prop := (¬ N a ∧ ∃ o, H a = some (.frz o (.lst xs))) ∨ LK K a xs
/-- the datum that stands for such a list -/
def scrD (ds : List D) : D := .dict [(.none, .list ds)]
def keyD : Key → D
  | .inl i => .int i
  | .inr x => .str x
/-- a tuple known by its one object, which has no dict of its own -/
def TupO (H : Hp) (a : Addr) (xs : List V) : Prop := ∃ o : Obj, H a = some (.frz o (.tup xs)) ∧ o.dict = none
/-- a dict whose keys are tuples of whole numbers: each key, its tuple's address, the value -/
abbrev TEnt := List (List Int × Addr × V)
def TRel (xs : TEnt) (ys : List (List Int × Addr × Value)) : Prop := Paired (fun x y => x.1 = y.1 ∧ x.2.1 = y.2.1 ∧ RelV x.2.2 y.2.2) xs ys
def DTo (d : Addr) (xs : TEnt) : HO := .ext fun h => (d == sysModules) = false ∧ ∃ (P : Program) (w : World) (ys : List (List Int × Addr × Value)), TRel xs ys ∧
  ∃ o es ep, h.get? d = some o ∧ o.ExactDict ∧ o.data = .dict es ep ∧ es.toList = ys.map (entryOfKey (tupleKind (intKind P w))) ∧ (ys.map (·.1)).Nodup
/-- whether a dict's keys are tuples -/
def tKeyed : List (D × D) → Bool
  | (.tuple _, _) :: _ => true
  | _ => false
mutual
/-- v reads as d; no tracked address within is one of N -/
inductive In (N : Addr → Prop) (H : Hp) : V → D → Prop
  | non : In N H .non .none
  | bl (b : Bool) : In N H (.bl b) (.bool b)
  | int (i : Int) : In N H (.int i) (.int i)
  | str (x : Str) : In N H (.str x) (.str x)
  | lst {a : Addr} {xs : List V} {ds : List D} : ¬ N a → H a = some (.lst xs) → InAll N H xs ds → In N H (.ref a) (.list ds)
  | tup {a : Addr} {xs : List V} {ds : List D} : ¬ N a → TupO H a xs → InAll N H xs ds → In N H (.ref a) (.tuple ds)
  | tupK {a : Addr} {xs : List V} {ds : List D} : TK K a xs → InAll N H xs ds → In N H (.ref a) (.tuple ds)
  | scr {a : Addr} {xs : List V} {ds : List D} : SqS K N H a xs → InAll N H xs ds → In N H (.ref a) (scrD ds)
  | dk {a : Addr} {kvs : List (Key × V)} {es : List (D × D)} : ¬ N a → H a = some (.dK kvs) → InKV N H kvs es → In N H (.ref a) (.dict es)
  | dt {a : Addr} {xs : TEnt} {es : List (D × D)} : ¬ N a → tKeyed es = true → H a = some (DTo a xs) → InTV N H xs es → In N H (.ref a) (.dict es)
inductive InAll (N : Addr → Prop) (H : Hp) : List V → List D → Prop
  | nil : InAll N H [] []
  | cons {v : V} {vs : List V} {d : D} {ds : List D} : In N H v d → InAll N H vs ds → InAll N H (v :: vs) (d :: ds)
inductive InKV (N : Addr → Prop) (H : Hp) : List (Key × V) → List (D × D) → Prop
  | nil : InKV N H [] []
  | cons {k : Key} {v : V} {vs : List (Key × V)} {d : D} {ds : List (D × D)} : In N H v d → InKV N H vs ds → InKV N H ((k, v) :: vs) ((keyD k, d) :: ds)
inductive InTV (N : Addr → Prop) (H : Hp) : TEnt → List (D × D) → Prop
  | nil : InTV N H [] []
  | cons {k : List Int} {q : Addr} {v : V} {vs : TEnt} {d : D} {ds : List (D × D)} : In N H (.ref q) (.tuple (k.map .int)) → In N H v d → InTV N H vs ds → InTV N H ((k, q, v) :: vs) ((.tuple (k.map .int), d) :: ds)
end
end
section
variable {K : PySem.W.Frag} {N N' : Addr → Prop} {H H' : Hp}
theorem SqS.mono {N N' : Addr → Prop} {H H' : Hp} {a : Addr} {xs : List V} (hn : ∀ b, N' b → N b ∨ H b = none) (hk : ∀ b o, H b = some o → ¬ N b → H' b = some o) (h : SqS K N H a xs) : SqS K N' H' a xs := by
  rcases h with ⟨n, o, r⟩ | h
  · exact .inl ⟨fun z => (hn _ z).elim n fun e => by (rw [e] at r; cases r), o, hk _ _ r n⟩
  · exact .inr h
theorem SqS.seq {N : Addr → Prop} {H : Hp} {a : Addr} {xs : List V} (h : SqS K N H a xs) : SqL K H a xs := by
  rcases h with ⟨n, o, r⟩ | h
  · exact .inl (.inr ⟨o, r⟩)
  · exact .inr h
mutual
theorem In.mono (hn : ∀ b, N' b → N b ∨ H b = none) (hk : ∀ b o, H b = some o → ¬ N b → H' b = some o) : ∀ {v : V} {d : D}, In K N H v d → In K N' H' v d
  | _, _, .non => .non
  | _, _, .bl b => .bl b
  | _, _, .int i => .int i
  | _, _, .str x => .str x
  | _, _, .lst n r h => .lst (fun z => (hn _ z).elim n fun e => by rw [e] at r; cases r) (hk _ _ r n) (InAll.mono hn hk h)
  | _, _, .tup n r h => .tup (fun z => (hn _ z).elim n fun e => by
      obtain ⟨o, r, _⟩ := r
      rw [e] at r; cases r) (let ⟨o, r, z⟩ := r; ⟨o, hk _ _ r n, z⟩) (InAll.mono hn hk h)
  | _, _, .tupK r h => .tupK r (InAll.mono hn hk h)
  | _, _, .scr r h => .scr (SqS.mono hn hk r) (InAll.mono hn hk h)
  | _, _, .dk n r h => .dk (fun z => (hn _ z).elim n fun e => by rw [e] at r; cases r) (hk _ _ r n) (InKV.mono hn hk h)
  | _, _, .dt n z r h => .dt (fun z => (hn _ z).elim n fun e => by rw [e] at r; cases r) z (hk _ _ r n) (InTV.mono hn hk h)
theorem InAll.mono (hn : ∀ b, N' b → N b ∨ H b = none) (hk : ∀ b o, H b = some o → ¬ N b → H' b = some o) : ∀ {vs : List V} {ds : List D}, InAll K N H vs ds → InAll K N' H' vs ds
  | _, _, .nil => .nil
  | _, _, .cons h t => .cons (In.mono hn hk h) (InAll.mono hn hk t)
theorem InKV.mono (hn : ∀ b, N' b → N b ∨ H b = none) (hk : ∀ b o, H b = some o → ¬ N b → H' b = some o) : ∀ {vs : List (Key × V)} {ds : List (D × D)}, InKV K N H vs ds → InKV K N' H' vs ds
  | _, _, .nil => .nil
  | _, _, .cons h t => .cons (In.mono hn hk h) (InKV.mono hn hk t)
theorem InTV.mono (hn : ∀ b, N' b → N b ∨ H b = none) (hk : ∀ b o, H b = some o → ¬ N b → H' b = some o) : ∀ {vs : TEnt} {ds : List (D × D)}, InTV K N H vs ds → InTV K N' H' vs ds
  | _, _, .nil => .nil
  | _, _, .cons q h t => .cons (In.mono hn hk q) (In.mono hn hk h) (InTV.mono hn hk t)
end
theorem TK.seq {a : Addr} {xs : List V} (h : TK K a xs) : SqT K H a xs :=
  let ⟨o, its, n, h1, h2, _, h3⟩ := h; .inr ⟨o, its, n, h1, h2, h3⟩
theorem TupO.seq {a : Addr} {xs : List V} (h : TupO H a xs) : SqT K H a xs := let ⟨o, h, _⟩ := h; .inl (.inr ⟨o, h⟩)
theorem InAll.length : ∀ {vs : List V} {ds : List D}, InAll K N H vs ds → vs.length = ds.length
  | _, _, .nil => rfl
  | _, _, .cons _ t => congrArg (· + 1) t.length
theorem InAll.get : ∀ {vs : List V} {ds : List D} {i : Nat} {v : V}, InAll K N H vs ds → vs[i]? = some v → ∃ d, ds[i]? = some d ∧ In K N H v d
  | _, _, _, _, .nil, e => by simp at e
  | _, _, 0, _, .cons h _, e => by simp at e; subst e; exact ⟨_, rfl, h⟩
  | _, _, i + 1, _, .cons _ t, e => by
    obtain ⟨d, e1, h1⟩ := InAll.get (i := i) t (by simpa using e)
    exact ⟨d, by simpa using e1, h1⟩
theorem InAll.get' : ∀ {vs : List V} {ds : List D} {i : Nat} {d : D}, InAll K N H vs ds → ds[i]? = some d → ∃ v, vs[i]? = some v ∧ In K N H v d
  | _, _, _, _, .nil, e => by simp at e
  | _, _, 0, _, .cons h _, e => by simp at e; subst e; exact ⟨_, rfl, h⟩
  | _, _, i + 1, _, .cons _ t, e => by
    obtain ⟨d, e1, h1⟩ := InAll.get' (i := i) t (by simpa using e)
    exact ⟨d, by simpa using e1, h1⟩
theorem InAll.append : ∀ {vs ws : List V} {ds es : List D}, InAll K N H vs ds → InAll K N H ws es → InAll K N H (vs ++ ws) (ds ++ es)
  | _, _, _, _, .nil, k => k
  | _, _, _, _, .cons h t, k => .cons h (t.append k)
theorem InAll.take : ∀ {vs : List V} {ds : List D} (n : Nat), InAll K N H vs ds → InAll K N H (vs.take n) (ds.take n)
  | _, _, 0, _ => by simpa using InAll.nil
  | _, _, _ + 1, .nil => .nil
  | _, _, n + 1, .cons h t => .cons h (t.take n)
theorem InAll.drop : ∀ {vs : List V} {ds : List D} (n : Nat), InAll K N H vs ds → InAll K N H (vs.drop n) (ds.drop n)
  | _, _, 0, h => h
  | _, _, _ + 1, .nil => .nil
  | _, _, n + 1, .cons _ t => t.drop n
theorem InAll.set : ∀ {vs : List V} {ds : List D} {v : V} {d : D} (i : Nat), InAll K N H vs ds → In K N H v d → InAll K N H (vs.set i v) (ds.set i d)
  | _, _, _, _, _, .nil, _ => .nil
  | _, _, _, _, 0, .cons _ t, k => .cons k t
  | _, _, _, _, i + 1, .cons h t, k => .cons h (t.set i k)
theorem In.list_inv {v : V} {ds : List D} (h : In K N H v (.list ds)) : ∃ a xs, v = .ref a ∧ H a = some (.lst xs) ∧ InAll K N H xs ds := by
  cases h with
  | lst n r h => exact ⟨_, _, rfl, r, h⟩
theorem In.tuple_inv {v : V} {ds : List D} (h : In K N H v (.tuple ds)) : ∃ a xs, v = .ref a ∧ SqT K H a xs ∧ InAll K N H xs ds := by
  cases h with
  | tup n r h => exact ⟨_, _, rfl, r.seq, h⟩
  | tupK r h => exact ⟨_, _, rfl, r.seq, h⟩
theorem tuple_obj {X : Cx} {pins : List (Addr × Obj)} {σ : List (Option V)} {H : Hp} {s : Shared} {a : Addr} {xs : List V} (I : Inv X pins σ H s) (h : TupO H a xs ∨ TK X.K a xs) : ∃ o, s.heap.get? a = some o ∧ o.cls = .type "tuple" ∧ o.dict = none := by
  rcases h with ⟨o, h, z⟩ | ⟨o, its, n, h, c, z, _⟩
  · obtain ⟨g, _, _, _, t, gt, ct, _⟩ := I.hok _ _ h
    rw [g] at gt
    cases gt
    exact ⟨o, g, ct, z⟩
  · exact ⟨o, I.kIn a o h, c, z⟩
theorem InKV.key : ∀ {kvs : List (Key × V)} {es : List (D × D)}, InKV K N H kvs es → ∀ p ∈ es, p.1 ≠ .none
  | _, _, .nil, p, h => nomatch h
  | _, _, @InKV.cons _ _ _ k v vs d ds h t, p, hp => by
    rcases List.mem_cons.mp hp with rfl | hp
    · cases k <;> (intro z; cases z)
    · exact InKV.key t p hp
theorem InTV.key : ∀ {kvs : TEnt} {es : List (D × D)}, InTV K N H kvs es → ∀ p ∈ es, p.1 ≠ .none
  | _, _, .nil, p, h => nomatch h
  | _, _, @InTV.cons _ _ _ k q v vs d ds hq h t, p, hp => by
    rcases List.mem_cons.mp hp with rfl | hp
    · intro z; cases z
    · exact InTV.key t p hp
theorem In.scr_inv {v : V} {ds : List D} (h : In K N H v (scrD ds)) : (∃ a xs, v = .ref a ∧ SqS K N H a xs ∧ InAll K N H xs ds) := by
  generalize e : scrD ds = d at h
  cases h <;> first | (cases e; done) | skip
  · cases e
    exact ⟨_, _, rfl, by assumption, by assumption⟩
  · rename_i h3
    unfold scrD at e
    injection e with e
    subst e
    exact absurd rfl (InKV.key h3 _ (List.mem_cons_self ..))
  · rename_i h3
    unfold scrD at e
    injection e with e
    subst e
    exact absurd rfl (InTV.key h3 _ (List.mem_cons_self ..))
theorem In.int_inv {v : V} {i : Int} (h : In K N H v (.int i)) : v = .int i := by cases h; rfl
theorem In.str_inv {v : V} {x : Str} (h : In K N H v (.str x)) : v = .str x := by cases h; rfl
theorem In.bool_inv {v : V} {b : Bool} (h : In K N H v (.bool b)) : v = .bl b := by cases h; rfl
theorem In.none_inv {v : V} (h : In K N H v .none) : v = .non := by cases h; rfl
end
end DL
end
section
set_option linter.all false
set_option maxRecDepth 100000
namespace DL
open PySem PySem.Spec PyProof.Rows L2
structure Om where
  a : Addr
  c : Addr
  g : Addr
  /-- tables of code objects, of the defs that make lambdas -/
  tb : List (Addr × Str) := []
def OmAt : Option Om → Addr → Prop
  | none, _ => False
  | some w, x => x = w.a ∨ x = w.c ∨ x = w.g ∨ ∃ q, (x, q) ∈ w.tb
def Orc (w : Om) (b : Nat) (H : Hp) : Prop := LamX.Tabs w.tb H ∧ ∃ (cells great : List Int) (n : Int),
  H w.a = some (.dK [(.inr "cells", .ref w.c), (.inr "great", .ref w.g), (.inr "spot", .int n)]) ∧ H w.c = some (.lst (cells.map V.int)) ∧ H w.g = some (.lst (great.map V.int)) ∧
  cells.length = 64 ∧ (∀ x ∈ cells, 0 ≤ x ∧ x < 2147483647) ∧ great.length ≤ 63 ∧ (∀ x ∈ great, 0 ≤ x ∧ x.natAbs < 2 ^ 1048577) ∧ 0 ≤ n ∧ n + b ≤ 2 ^ 40 ∧ w.c ≠ w.g
def OrcO : Option Om → Nat → Hp → Prop
  | none, b, _ => b = 0
  | some w, b, H => Orc w b H
theorem OrcO.there {ω : Option Om} {b : Nat} {H : Hp} (h : OrcO ω b H) {x : Addr} (hx : OmAt ω x) : H x ≠ none := by
  cases ω with
  | none => exact hx.elim
  | some w =>
    obtain ⟨h0, cells, great, n, h1, h2, h3, _⟩ := h
    rcases hx with rfl | rfl | rfl | ⟨q, m⟩
    · rw [h1]; exact fun z => nomatch z
    · rw [h2]; exact fun z => nomatch z
    · rw [h3]; exact fun z => nomatch z
    · obtain ⟨ps, e, _⟩ := h0 _ m
      rw [e]; exact fun z => nomatch z
/-- all but the drawing state's objects stay -/
def Keep (ω : Option Om) (H H' : Hp) : Prop := ∀ x o, H x = some o → ¬ OmAt ω x → H' x = some o
theorem Keep.refl {ω : Option Om} {H : Hp} : Keep ω H H := fun _ _ e _ => e
theorem Keep.trans {ω : Option Om} {H H1 H2 : Hp} (a : Keep ω H H1) (b : Keep ω H1 H2) : Keep ω H H2 := fun x o e n => b x o (a x o e n) n
theorem Keep.of {ω : Option Om} {H H' : Hp} (s : Same H H') : Keep ω H H' := fun x o e _ => s x o e
theorem same_new {H : Hp} {p : Addr} {o : HO} (h : H p = none) : Same H (upd H p o) := fun b x e => by
  rw [upd_ne (ne_of_none e h)]
  exact e
theorem OrcO.same {ω : Option Om} {b : Nat} {H H' : Hp} (s : Same H H') (h : OrcO ω b H) : OrcO ω b H' := by
  cases ω with
  | none => exact h
  | some w =>
    obtain ⟨h0, cells, great, n, h1, h2, h3, h4⟩ := h
    exact ⟨h0.ext s, cells, great, n, s _ _ h1, s _ _ h2, s _ _ h3, h4⟩
/-- whether a lambda stands in an expression, in a statement, in a def -/
def exLam : Nat → Expr → Bool
  | 0, _ => false
  | _ + 1, .Lambda .. => true
  | n + 1, .Call f es _ _ => exLam n f || es.any (exLam n)
  | n + 1, .BoolOp _ es _ => es.any (exLam n)
  | n + 1, .UnaryOp _ e _ => exLam n e
  | n + 1, .Compare e _ es _ => exLam n e || es.any (exLam n)
  | n + 1, .BinOp a _ b _ => exLam n a || exLam n b
  | n + 1, .IfExp a b c _ => exLam n a || exLam n b || exLam n c
  | n + 1, .List es _ => es.any (exLam n)
  | n + 1, .Tuple es _ _ => es.any (exLam n)
  | n + 1, .Subscript a b _ => exLam n a || exLam n b
  | n + 1, .ListComp e _ _ _ => exLam n e
  | _, _ => false
def stLam : Nat → Stmt → Bool
  | 0, _ => false
  | _ + 1, .Return (some e) _ => exLam 8 e
  | _ + 1, .Assign _ e _ => exLam 8 e
  | _ + 1, .Expr e _ => exLam 8 e
  | n + 1, .For _ _ b _ _ => b.any (stLam n)
  | n + 1, .While t b _ _ => exLam 8 t || b.any (stLam n)
  | n + 1, .If t b o _ => exLam 8 t || b.any (stLam n) || o.any (stLam n)
  | n + 1, .With _ b _ => b.any (stLam n)
  | _, _ => false
/-- the defs that make lambdas -/
def makesLam (fd : FuncData) : Bool := match fd.body with
  | .stmts b => b.any (stLam 6)
  | .expr _ => false
/-- the table of a code object -/
def tabAt (K : PySem.W.Frag) (c : Addr) : Option Addr := match K.lookup c with
  | some ⟨_, _, .fields vs, _⟩ => (match vs.getD 11 .none with
    | .ref P => some P
    | _ => none)
  | _ => none
/-- the tables of the defs that make lambdas, with the name that their lambdas' code objects bear -/
def lamTabs (K : PySem.W.Frag) : List (Addr × Str) := K.filterMap fun q => match q.2.data with
  | .func fd => if makesLam fd = true then (match fd.code with
    | .ref c => (tabAt K c).map fun P => (P, fd.qualname ++ (".<locals>." : Str) ++ ("<lambda>" : Str))
    | _ => none) else none
  | _ => none
/-- the drawing state knows the tables -/
def TB (K : PySem.W.Frag) (ω : Option Om) : Prop := ∀ w, ω = some w → w.tb = lamTabs K
inductive Slot where
  | val (d : D)
  | own (d : D)
  | orc
abbrev Ev := List (Option Slot)
section
variable (K : PySem.W.Frag)
def addN (N : Addr → Prop) (p : Addr) : Addr → Prop := fun x => N x ∨ x = p
def OwnAt (N : Addr → Prop) (H : Hp) (a : Addr) : D → Prop
  | .list ds => ∃ xs, H a = some (.lst xs) ∧ InAll K N H xs ds
  | .dict es => if tKeyed es = true then ∃ xs, H a = some (DTo a xs) ∧ InTV K N H xs es else ∃ kvs, H a = some (.dK kvs) ∧ InKV K N H kvs es
  | _ => False
def InB (ω : Option Om) (N : Addr → Prop) (H : Hp) (v : V) (d : D) : Prop := In K N H v d ∨ ∃ a, v = .ref a ∧ ¬ OmAt ω a ∧ OwnAt K N H a d
def SlotR (ω : Option Om) (N : Addr → Prop) (E H : Hp) : Slot → V → Prop
  | .val d, v => In K N H v d
  | .own d, v => ∃ a, v = .ref a ∧ N a ∧ ¬ OmAt ω a ∧ E a = none ∧ OwnAt K N H a d
  | .orc, v => ∃ w, ω = some w ∧ v = .ref w.a ∧ w.tb = lamTabs K
/-- the frame's data: E the heap at the def's entry -/
structure RepE (ω : Option Om) (N : Addr → Prop) (E H : Hp) (b : Nat) (env : Ev) (σ : L2.St) : Prop where
  len : σ.length = env.length
  slot : ∀ (i : Nat) (s : Slot), env[i]? = some (some s) → ∃ v, σ[i]? = some (some v) ∧ SlotR K ω N E H s v
  sep : ∀ (i j : Nat) (di dj : D) (a : Addr), i ≠ j → env[i]? = some (some (.own di)) → env[j]? = some (some (.own dj)) → σ[i]? = some (some (.ref a)) → σ[j]? = some (some (.ref a)) → False
  dom : ∀ x, N x → H x ≠ none
  om : ∀ x, OmAt ω x → N x
  orc : OrcO ω b H
  keep : Keep ω E H
  tb : TB K ω
inductive Kd | b | v | o | t
  deriving DecidableEq
/-- a new tuple, known by its one object -/
def PlainT (p : Addr) (vs : List V) : HO := .ext fun h => ∃ its : List Value, Vals vs its ∧ its.length ≤ sizeLine ∧ h.get? p = some ({ cls := .type "tuple", data := .seq its.toArray } : Obj)
def RK (ω : Option Om) (N : Addr → Prop) (H H' : Hp) : Kd → V → D → Prop
  | .b, v, d => InB K ω N H' v d
  | .v, v, d => In K N H' v d
  | .o, v, d => ∃ p, v = .ref p ∧ H p = none ∧ OwnAt K (addN N p) H' p d
  | .t, v, d => ∃ p vs ds, v = .ref p ∧ d = .tuple ds ∧ H p = none ∧ H' p = some (PlainT p vs) ∧ InAll K N H' vs ds
abbrev FE := Ev → Tr D
abbrev FT := Ev → Tr Bool
def tX (kd : Kd) (f : FE) : TE := fun σ H Q => ∃ ω N E b env, RepE K ω N E H b env σ ∧ (f env).All b fun d c => ∀ v H', Keep ω H H' → OrcO ω c H' → RK K ω N H H' kd v d → Q v H'
def tY (f : FT) : TT := fun σ H Q => ∃ ω N E b env, RepE K ω N E H b env σ ∧ (f env).All b fun d c => ∀ H', Keep ω H H' → OrcO ω c H' → Q d H'
end
section
variable {K : PySem.W.Frag} {ω : Option Om} {N N' : Addr → Prop} {E H H' H2 : Hp} {b c : Nat} {env : Ev} {σ : L2.St}
theorem OwnAt.dictD {a : Addr} {es : List (D × D)} (h : OwnAt K N H a (.dict es)) : (tKeyed es = true ∧ ∃ xs, H a = some (DTo a xs) ∧ InTV K N H xs es) ∨ (tKeyed es = false ∧ ∃ kvs, H a = some (.dK kvs) ∧ InKV K N H kvs es) := by
  have h : if tKeyed es = true then ∃ xs, H a = some (DTo a xs) ∧ InTV K N H xs es else ∃ kvs, H a = some (.dK kvs) ∧ InKV K N H kvs es := h
  by_cases z : tKeyed es = true
  · rw [if_pos z] at h
    exact .inl ⟨z, h⟩
  · rw [if_neg z] at h
    exact .inr ⟨by simpa using z, h⟩
theorem OwnAt.ofT {a : Addr} {es : List (D × D)} {xs : TEnt} (z : tKeyed es = true) (e : H a = some (DTo a xs)) (h : InTV K N H xs es) : OwnAt K N H a (.dict es) := by
  show if tKeyed es = true then _ else _
  rw [if_pos z]
  exact ⟨xs, e, h⟩
theorem tKeyed_kv : ∀ {kvs : List (Key × V)} {es : List (D × D)}, InKV K N H kvs es → tKeyed es = false
  | _, _, .nil => rfl
  | _, _, @InKV.cons _ _ _ k v vs d ds h t => by cases k <;> rfl
theorem OwnAt.ofK {a : Addr} {es : List (D × D)} {kvs : List (Key × V)} (e : H a = some (.dK kvs)) (h : InKV K N H kvs es) : OwnAt K N H a (.dict es) := by
  show if tKeyed es = true then _ else _
  rw [if_neg (by rw [tKeyed_kv h]; decide)]
  exact ⟨kvs, e, h⟩
theorem OwnAt.mono {a : Addr} {d : D} (h : OwnAt K N H a d) (hn : ∀ x, N' x → N x ∨ H x = none) (hk : ∀ x o, H x = some o → ¬ N x → H' x = some o) (ha : H' a = H a) : OwnAt K N' H' a d := by
  cases d with
  | list ds => obtain ⟨xs, e, h⟩ := h; exact ⟨xs, ha.trans e, h.mono hn hk⟩
  | dict es =>
    rcases h.dictD with ⟨z, xs, e, h⟩ | ⟨z, kvs, e, h⟩
    · exact .ofT z (ha.trans e) (h.mono hn hk)
    · exact .ofK (ha.trans e) (h.mono hn hk)
  | _ => exact h.elim
theorem OwnAt.there {a : Addr} {d : D} (h : OwnAt K N H a d) : ∃ o, H a = some o := by
  cases d with
  | list ds => obtain ⟨xs, e, h⟩ := h; exact ⟨_, e⟩
  | dict es =>
    rcases h.dictD with ⟨z, xs, e, h⟩ | ⟨z, kvs, e, h⟩
    · exact ⟨_, e⟩
    · exact ⟨_, e⟩
  | _ => exact h.elim
theorem OwnAt.keep {a : Addr} {d : D} (h : OwnAt K N H a d) (om : ∀ x, OmAt ω x → N x) (hk : Keep ω H H') (ha : ¬ OmAt ω a) : OwnAt K N H' a d := by
  obtain ⟨o, e⟩ := h.there
  exact h.mono (fun _ z => .inl z) (fun x o e n => hk x o e fun z => n (om x z)) ((hk a o e ha).trans e.symm)
theorem In.keep {v : V} {d : D} (h : In K N H v d) (om : ∀ x, OmAt ω x → N x) (hk : Keep ω H H') : In K N H' v d := h.mono (fun _ z => .inl z) fun x o e n => hk x o e fun z => n (om x z)
theorem In.weak {v : V} {d : D} (h : In K N H v d) (hn : ∀ x, N' x → N x) : In K N' H v d := h.mono (fun x z => .inl (hn x z)) fun x o e _ => e
theorem InAll.keep {vs : List V} {ds : List D} (h : InAll K N H vs ds) (om : ∀ x, OmAt ω x → N x) (hk : Keep ω H H') : InAll K N H' vs ds := h.mono (fun _ z => .inl z) fun x o e n => hk x o e fun z => n (om x z)
theorem InB.keep {v : V} {d : D} (h : InB K ω N H v d) (om : ∀ x, OmAt ω x → N x) (hk : Keep ω H H') : InB K ω N H' v d := by
  rcases h with h | ⟨a, rfl, n, h⟩
  · exact .inl (h.keep om hk)
  · exact .inr ⟨a, rfl, n, h.keep om hk n⟩
/-- an own thing, read -/
theorem OwnAt.in {a : Addr} {d : D} (h : OwnAt K N H a d) (ha : ¬ N a) : In K N H (.ref a) d := by
  cases d with
  | list ds => obtain ⟨xs, e, h⟩ := h; exact .lst ha e h
  | dict es =>
    rcases h.dictD with ⟨z, xs, e, h⟩ | ⟨z, kvs, e, h⟩
    · exact .dt ha z e h
    · exact .dk ha e h
  | _ => exact h.elim
theorem RK.ov {v : V} {d : D} (h : RK K ω N H H' .o v d) (dom : ∀ x, N x → H x ≠ none) : RK K ω N H H' .v v d := by
  obtain ⟨p, rfl, e, h⟩ := h
  exact (h.mono (N' := N) (fun x z => .inl (.inl z)) (fun _ _ e _ => e) rfl).in fun z => dom p z e
theorem InB.list {v : V} {ds : List D} (h : InB K ω N H v (.list ds)) : ∃ a xs, v = .ref a ∧ H a = some (.lst xs) ∧ InAll K N H xs ds := by
  rcases h with h | ⟨a, rfl, _, xs, e, h⟩
  · exact h.list_inv
  · exact ⟨a, xs, rfl, e, h⟩
theorem InB.tuple {v : V} {ds : List D} (h : InB K ω N H v (.tuple ds)) : ∃ a xs, v = .ref a ∧ SqT K H a xs ∧ InAll K N H xs ds := by
  rcases h with h | ⟨a, rfl, _, h⟩
  · exact h.tuple_inv
  · exact h.elim
theorem InB.int {v : V} {i : Int} (h : InB K ω N H v (.int i)) : v = .int i := by
  rcases h with h | ⟨a, rfl, _, h⟩
  · exact h.int_inv
  · exact h.elim
theorem InB.str {v : V} {x : Str} (h : InB K ω N H v (.str x)) : v = .str x := by
  rcases h with h | ⟨a, rfl, _, h⟩
  · exact h.str_inv
  · exact h.elim
theorem InB.bool {v : V} {x : Bool} (h : InB K ω N H v (.bool x)) : v = .bl x := by
  rcases h with h | ⟨a, rfl, _, h⟩
  · exact h.bool_inv
  · exact h.elim
theorem InB.none {v : V} (h : InB K ω N H v .none) : v = .non := by
  rcases h with h | ⟨a, rfl, _, h⟩
  · exact h.none_inv
  · exact h.elim
theorem SlotR.keep {s : Slot} {v : V} (h : SlotR K ω N E H s v) (om : ∀ x, OmAt ω x → N x) (hk : Keep ω H H') : SlotR K ω N E H' s v := by
  cases s with
  | val d => exact In.keep h om hk
  | own d => obtain ⟨a, e, n, no, z, h⟩ := h; exact ⟨a, e, n, no, z, h.keep om hk no⟩
  | orc => exact h
theorem RepE.move (r : RepE K ω N E H b env σ) (hk : Keep ω H H') (ho : OrcO ω c H') : RepE K ω N E H' c env σ where
  len := r.len
  slot := fun i s e => by
    obtain ⟨v, e1, h⟩ := r.slot i s e
    exact ⟨v, e1, h.keep r.om hk⟩
  sep := r.sep
  dom := fun x hx => by
    by_cases z : OmAt ω x
    · exact ho.there z
    · cases e : H x with
      | none => exact absurd e (r.dom x hx)
      | some o => rw [hk x o e z]; exact fun q => nomatch q
  om := r.om
  orc := ho
  keep := r.keep.trans hk
  tb := r.tb
/-- a value comes into a slot -/
theorem RepE.set {i : Nat} {s : Slot} {v : V} (r : RepE K ω N E H b env σ) (h : SlotR K ω N E H s v) (hs : ∀ d a, s = .own d → v = .ref a → ∀ (j : Nat) (dj : D), j ≠ i → env[j]? = some (some (.own dj)) → σ[j]? ≠ some (some (.ref a))) :
    RepE K ω N E H b (env.set i (some s)) (σ.set i (some v)) where
  len := by rw [List.length_set, List.length_set]; exact r.len
  slot := fun j t e => by
    by_cases z : i = j
    · subst z
      have hi : i < env.length := by
        have := List.getElem?_eq_some_iff.mp e
        obtain ⟨q, _⟩ := this
        rwa [List.length_set] at q
      rw [List.getElem?_set_self hi] at e
      cases e
      exact ⟨v, List.getElem?_set_self (by rw [r.len]; exact hi), h⟩
    · rw [List.getElem?_set_ne z] at e
      obtain ⟨w, e1, q⟩ := r.slot j t e
      exact ⟨w, by rw [List.getElem?_set_ne z]; exact e1, q⟩
  sep := fun j k dj dk a hjk e1 e2 e3 e4 => by
    by_cases z : i = j
    · subst z
      rw [List.getElem?_set_ne hjk] at e2 e4
      have hi : i < env.length := by
        obtain ⟨q, _⟩ := List.getElem?_eq_some_iff.mp e1
        rwa [List.length_set] at q
      rw [List.getElem?_set_self hi] at e1
      rw [List.getElem?_set_self (by rw [r.len]; exact hi)] at e3
      cases e1
      cases e3
      exact hs dj a rfl rfl k dk (fun q => hjk q.symm) e2 e4
    · rw [List.getElem?_set_ne z] at e1 e3
      by_cases y : i = k
      · subst y
        have hi : i < env.length := by
          obtain ⟨q, _⟩ := List.getElem?_eq_some_iff.mp e2
          rwa [List.length_set] at q
        rw [List.getElem?_set_self hi] at e2
        rw [List.getElem?_set_self (by rw [r.len]; exact hi)] at e4
        cases e2
        cases e4
        exact hs dk a rfl rfl j dj hjk e1 e3
      · rw [List.getElem?_set_ne y] at e2 e4
        exact r.sep j k dj dk a hjk e1 e2 e3 e4
  dom := r.dom
  om := r.om
  orc := r.orc
  keep := r.keep
  tb := r.tb
theorem RepE.setV {i : Nat} {d : D} {v : V} (r : RepE K ω N E H b env σ) (h : In K N H v d) : RepE K ω N E H b (env.set i (some (.val d))) (σ.set i (some v)) :=
  r.set (s := .val d) h fun _ _ e => nomatch e
theorem RepE.own {i : Nat} {d : D} {p : Addr} (r : RepE K ω N E H b env σ) (hk : Keep ω H H') (ho : OrcO ω c H') (hp : H p = none) (h : OwnAt K (addN N p) H' p d) :
    RepE K ω (addN N p) E H' c (env.set i (some (.own d))) (σ.set i (some (.ref p))) := by
  have np : ¬ N p := fun z => r.dom p z hp
  have nop : ¬ OmAt ω p := fun z => np (r.om p z)
  obtain ⟨op, ep⟩ := h.there
  have hE : E p = none := by
    cases e : E p with
    | none => rfl
    | some o => rw [r.keep p o e nop] at hp; cases hp
  have kk : ∀ x o, H x = some o → ¬ N x → H' x = some o := fun x o e n => hk x o e fun z => n (r.om x z)
  have r1 : RepE K ω (addN N p) E H' c env σ := {
    len := r.len
    slot := fun j s e => by
      obtain ⟨v, e1, q⟩ := r.slot j s e
      refine ⟨v, e1, ?_⟩
      cases s with
      | val d => exact In.mono (fun x z => z.elim .inl fun e => .inr (by rw [e]; exact hp)) kk q
      | own d =>
        obtain ⟨a, e2, n, no, z, q⟩ := q
        obtain ⟨oa, ea⟩ := q.there
        exact ⟨a, e2, .inl n, no, z, q.mono (fun x z => z.elim .inl fun e => .inr (by rw [e]; exact hp)) kk ((hk a oa ea no).trans ea.symm)⟩
      | orc => exact q
    sep := r.sep
    dom := fun x hx => by
      rcases hx with hx | rfl
      · exact (r.move hk ho).dom x hx
      · rw [ep]; exact fun q => nomatch q
    om := fun x z => .inl (r.om x z)
    orc := ho
    keep := r.keep.trans hk
    tb := r.tb }
  refine r1.set (s := .own d) ⟨p, rfl, .inr rfl, nop, hE, h⟩ fun d' a e1 e2 j dj hj e3 e4 => ?_
  cases e2
  obtain ⟨v, e5, a', e6, n, no, z, q⟩ := r.slot j _ e3
  rw [e4] at e5
  cases e5
  cases e6
  exact np n
end
end DL
end
section
set_option linter.all false
set_option maxRecDepth 100000
namespace DL
open PySem PySem.Spec PyProof.Rows L2
theorem weak {X : Cx} {e : Expr} {t t' : TE} (h : PE X e t) (k : ∀ σ H Q, t' σ H Q → t σ H Q) : PE X e t' := ⟨fun pins s σ H Q I q => h.run pins s σ H Q I (k σ H Q q)⟩
theorem weakT {X : Cx} {e : Expr} {t t' : TT} (h : PT X e t) (k : ∀ σ H Q, t' σ H Q → t σ H Q) : PT X e t' := ⟨fun pins s σ H Q I q => h.run pins s σ H Q I (k σ H Q q)⟩
theorem weakW {X : Cx} {e : Expr} {t t' : TT} (h : PW X e t) (k : ∀ σ H Q, t' σ H Q → t σ H Q) : PW X e t' := ⟨fun w pins s σ H Q I q => h.run w pins s σ H Q I (k σ H Q q)⟩
theorem weakA {X : Cx} {es : List Expr} {t t' : TA} (h : PA X es t) (k : ∀ σ H Q, t' σ H Q → t σ H Q) : PA X es t' := ⟨fun p pins s σ H Q I q => h.run p pins s σ H Q I (k σ H Q q)⟩
abbrev XE (X : Cx) (kd : Kd) (e : Expr) (f : FE) : Prop := PE X e (tX X.K kd f)
abbrev XT (X : Cx) (e : Expr) (f : FT) : Prop := PT X e (tY X.K f)
abbrev XW (X : Cx) (e : Expr) (f : FT) : Prop := PW X e (tY X.K f)
section
variable {K : PySem.W.Frag} {ω : Option Om} {N : Addr → Prop} {E H H1 H2 : Hp} {b c : Nat} {env : Ev} {σ : L2.St}
theorem Keep.none {x : Addr} (k : Keep ω H H1) (ho : OrcO ω c H1) (h : H1 x = Option.none) : H x = Option.none := by
  cases e : H x with
  | none => rfl
  | some o =>
    by_cases z : OmAt ω x
    · exact absurd h (ho.there z)
    · rw [k x o e z] at h
      cases h
/-- an end told over the later heap -/
theorem RK.back {kd : Kd} {v : V} {d : D} (k : Keep ω H H1) (ho : OrcO ω c H1) (h : RK K ω N H1 H2 kd v d) : RK K ω N H H2 kd v d := by
  cases kd with
  | b => exact h
  | v => exact h
  | o =>
    obtain ⟨p, e, z, q⟩ := h
    exact ⟨p, e, k.none ho z, q⟩
  | t =>
    obtain ⟨p, vs, ds, e, ed, z, q⟩ := h
    exact ⟨p, vs, ds, e, ed, k.none ho z, q⟩
theorem RK.toB {kd : Kd} {v : V} {d : D} (nt : ∀ ds, d ≠ .tuple ds) (h : RK K ω N H H1 kd v d) (dom : ∀ x, N x → H x ≠ Option.none) : InB K ω N H1 v d := by
  cases kd with
  | b => exact h
  | v => exact .inl h
  | o => exact .inl (h.ov dom)
  | t =>
    obtain ⟨p, vs, ds, e, ed, _⟩ := h
    exact absurd ed (nt ds)
end
section
variable {X : Cx}
theorem xe_vb {e : Expr} {f : FE} (h : XE X .v e f) : XE X .b e f := weak h fun σ H Q ⟨ω, N, E, b, env, r, q⟩ =>
  ⟨ω, N, E, b, env, r, Tr.All_mono q fun d c z v H' k o i => z v H' k o (.inl i)⟩
theorem xe_ov {e : Expr} {f : FE} (h : XE X .o e f) : XE X .v e f := weak h fun σ H Q ⟨ω, N, E, b, env, r, q⟩ =>
  ⟨ω, N, E, b, env, r, Tr.All_mono q fun d c z v H' k o i => z v H' k o (i.ov r.dom)⟩
def eVar (i : Nat) : FE := fun env => match env[i]? with
  | some (some (.val d)) => .ret d
  | _ => .fail
def eVarB (i : Nat) : FE := fun env => match env[i]? with
  | some (some (.val d)) => .ret d
  | some (some (.own d)) => .ret d
  | _ => .fail
def eC (d : D) : FE := fun _ => .ret d
theorem xe_var {e : Expr} {i : Nat} (h : PE X e (tVar i)) : XE X .v e (eVar i) := weak h fun σ H Q ⟨ω, N, E, b, env, r, q⟩ => by
  unfold eVar at q
  split at q
  · rename_i d e
    obtain ⟨v, e1, h1⟩ := r.slot i _ e
    exact ⟨v, e1, q v H Keep.refl r.orc h1⟩
  · exact q.elim
theorem xe_varB {e : Expr} {i : Nat} (h : PE X e (tVar i)) : XE X .b e (eVarB i) := weak h fun σ H Q ⟨ω, N, E, b, env, r, q⟩ => by
  unfold eVarB at q
  split at q
  · rename_i d e
    obtain ⟨v, e1, h1⟩ := r.slot i _ e
    exact ⟨v, e1, q v H Keep.refl r.orc (.inl h1)⟩
  · rename_i d e
    obtain ⟨v, e1, a, e2, n, no, z, h1⟩ := r.slot i _ e
    exact ⟨v, e1, q v H Keep.refl r.orc (.inr ⟨a, e2, no, h1⟩)⟩
  · exact q.elim
theorem xe_int {i j pos} : XE X .v (.Constant (.int i) j pos) (eC (.int i)) := weak pe_int fun σ H Q ⟨ω, N, E, b, env, r, q⟩ => q _ H Keep.refl r.orc (.int i)
theorem xe_bl {i j pos} : XE X .v (.Constant (.bool i) j pos) (eC (.bool i)) := weak pe_bl fun σ H Q ⟨ω, N, E, b, env, r, q⟩ => q _ H Keep.refl r.orc (.bl i)
theorem xe_non {j pos} : XE X .v (.Constant .none j pos) (eC .none) := weak pe_non fun σ H Q ⟨ω, N, E, b, env, r, q⟩ => q _ H Keep.refl r.orc .non
theorem xe_str {i j pos} : XE X .v (.Constant (.str i) j pos) (eC (.str i)) := weak pe_str fun σ H Q ⟨ω, N, E, b, env, r, q⟩ => q _ H Keep.refl r.orc (.str i)
/-- a constant of the module -/
theorem xe_glob {x : Str} {v : V} {u : Value} {pos : Pos} {d : D} (hg : Gl X x) (hm : X.mg x = some u) (r : RelV v u) (hd : ∀ N H, In X.K N H v d) (hdb : (x == ("__debug__" : Str)) = false := by decide) : XE X .v (.Name x pos) (eC d) :=
  weak (pe_glob hg hm r hdb) fun σ H Q ⟨ω, N, E, b, env, r, q⟩ => q _ H Keep.refl r.orc (hd N H)
def e2 (g : D → D → Option D) (fa fb : FE) : FE := fun env => (fa env).bind fun x => (fb env).bind fun y => Tr.ofOpt (g x y)
/-- a reading of a value rule over data: what g tells comes, of the kind kd; nothing tracked is changed -/
def rD2 (K : PySem.W.Frag) (g : D → D → Option D) (kd : Kd) : R2 := fun v u H Q => ∃ ω N x y d, (∀ x, OmAt ω x → N x) ∧ (∀ x, N x → H x ≠ none) ∧ InB K ω N H v x ∧ InB K ω N H u y ∧ g x y = some d ∧
  ∀ v' H', Same H H' → RK K ω N H H' kd v' d → Q v' H'
theorem read2 {fa fb : FE} {g : D → D → Option D} {kd : Kd} {K : PySem.W.Frag} {σ : L2.St} {H : Hp} {Q : VK} (h : tX K kd (e2 g fa fb) σ H Q) : tOp (rD2 K g kd) (tX K .b fa) (tX K .b fb) σ H Q := by
  obtain ⟨ω, N, E, b, env, r, q⟩ := h
  refine ⟨ω, N, E, b, env, r, Tr.All_mono ((Tr.All_bind _ _ _ _).mp q) fun x c qa v H1 k1 o1 i1 => ?_⟩
  refine ⟨ω, N, E, c, env, r.move k1 o1, Tr.All_mono ((Tr.All_bind _ _ _ _).mp qa) fun y c2 qb u H2 k2 o2 i2 => ?_⟩
  cases e : g x y with
  | none => rw [e] at qb; exact qb.elim
  | some d =>
    rw [e] at qb
    have r2 := (r.move k1 o1).move k2 o2
    exact ⟨ω, N, x, y, d, r.om, r2.dom, InB.keep i1 r.om k2, i2, e, fun v' H' s' i' => qb v' H' ((k1.trans k2).trans (Keep.of s')) (o2.same s') (RK.back (k1.trans k2) o2 i')⟩
theorem xe_op {op : Operator} {a b : Expr} {fa fb : FE} {g : D → D → Option D} {kd : Kd} {pos : Pos} (ho : OpR X (binaryOp op) (rD2 X.K g kd)) (ha : XE X .b a fa) (hb : XE X .b b fb) : XE X kd (.BinOp a op b pos) (e2 g fa fb) :=
  weak (pe_op ho ha hb) fun _ _ _ h => read2 h
theorem xe_cmp {op : CmpOp} {a b : Expr} {fa fb : FE} {g : D → D → Option D} {kd : Kd} {pos : Pos} (ho : OpR X (compareOp op) (rD2 X.K g kd)) (ha : XE X .b a fa) (hb : XE X .b b fb) (hm : behindInMarks op b = false) : XE X kd (.Compare a [op] [b] pos) (e2 g fa fb) :=
  weak (pe_cmpR ho ha hb hm) fun _ _ _ h => read2 h
/-- the truth of what is a truth -/
def tt (f : FE) : FT := fun env => (f env).bind fun d => match d with
  | .bool k => .ret k
  | _ => .fail
theorem readT {f : FE} {kd : Kd} {K : PySem.W.Frag} {σ : L2.St} {H : Hp} {Q : Bool → Hp → Prop} (h : tY K (tt f) σ H Q) : tX K kd f σ H fun x H' => ∃ k, x = .bl k ∧ Q k H' := by
  obtain ⟨ω, N, E, b, env, r, q⟩ := h
  refine ⟨ω, N, E, b, env, r, Tr.All_mono ((Tr.All_bind _ _ _ _).mp q) fun x c qa v H1 k1 o1 i1 => ?_⟩
  cases x with
  | bool k => exact ⟨k, (RK.toB (fun _ z => by cases z) i1 r.dom).bool, qa H1 k1 o1⟩
  | _ => exact qa.elim
theorem xt_cmp {op : CmpOp} {a b : Expr} {fa fb : FE} {g : D → D → Option D} {pos : Pos} (ho : OpR X (compareOp op) (rD2 X.K g .v)) (ha : XE X .b a fa) (hb : XE X .b b fb) (hm : behindInMarks op b = false) : XT X (.Compare a [op] [b] pos) (tt (e2 g fa fb)) :=
  weakT (pt_cmpR ho ha hb hm) fun σ H Q h => by
    have q : tX X.K .v (e2 g fa fb) σ H fun x H' => ∃ k, x = .bl k ∧ Q k H' := readT h
    exact read2 q
theorem xt_val {e : Expr} {f : FE} {kd : Kd} (h : XE X kd e f) (he : ∀ whole, isTrue e X.env whole = (do let v ← whole; standAt e.pos; holding [v] (truthy v)) := by intro _; rfl) : XT X e (tt f) :=
  weakT (pt_val h he) fun σ H Q h => readT h
def bAnd (f g : FT) : FT := fun env => (f env).bind fun c => if c = true then g env else .ret false
def bOr (f g : FT) : FT := fun env => (f env).bind fun c => if c = true then .ret true else g env
def bNot (f : FT) : FT := fun env => (f env).bind fun c => .ret (!c)
def eIf (c : FT) (f g : FE) : FE := fun env => (c env).bind fun k => if k = true then f env else g env
section
variable {a b : Expr} {rest : List Expr} {f g : FT} {fa fb : FE} {pos : Pos}
theorem xw_and1 (ha : XT X a f) : XW X (.BoolOp .And [a] pos) f := pw_and1 ha
theorem xw_or1 (ha : XT X a f) : XW X (.BoolOp .Or [a] pos) f := pw_or1 ha
theorem xw_and (ha : XT X a f) (hb : XW X (.BoolOp .And (b :: rest) pos) g) : XW X (.BoolOp .And (a :: b :: rest) pos) (bAnd f g) := weakW (pw_and ha hb) fun σ H Q ⟨ω, N, E, b, env, r, q⟩ => by
  refine ⟨ω, N, E, b, env, r, Tr.All_mono ((Tr.All_bind _ _ _ _).mp q) fun x c qa H1 k1 o1 => ?_⟩
  cases x with
  | true => exact ⟨ω, N, E, c, env, r.move k1 o1, Tr.All_mono qa fun y c2 qb H2 k2 o2 => qb H2 (k1.trans k2) o2⟩
  | false => exact qa H1 k1 o1
theorem xw_or (ha : XT X a f) (hb : XW X (.BoolOp .Or (b :: rest) pos) g) : XW X (.BoolOp .Or (a :: b :: rest) pos) (bOr f g) := weakW (pw_or ha hb) fun σ H Q ⟨ω, N, E, b, env, r, q⟩ => by
  refine ⟨ω, N, E, b, env, r, Tr.All_mono ((Tr.All_bind _ _ _ _).mp q) fun x c qa H1 k1 o1 => ?_⟩
  cases x with
  | true => exact qa H1 k1 o1
  | false => exact ⟨ω, N, E, c, env, r.move k1 o1, Tr.All_mono qa fun y c2 qb H2 k2 o2 => qb H2 (k1.trans k2) o2⟩
theorem xt_not (ha : XT X a f) : XT X (.UnaryOp .Not a pos) (bNot f) := weakT (pt_not ha) fun σ H Q ⟨ω, N, E, b, env, r, q⟩ =>
  ⟨ω, N, E, b, env, r, Tr.All_mono ((Tr.All_bind _ _ _ _).mp q) fun x c qa H1 k1 o1 => qa H1 k1 o1⟩
theorem xe_if {c : Expr} {kd : Kd} (hc : XT X c f) (ha : XE X kd a fa) (hb : XE X kd b fb) : XE X kd (.IfExp c a b pos) (eIf f fa fb) := weak (pe_ifExp hc ha hb) fun σ H Q ⟨ω, N, E, b, env, r, q⟩ => by
  refine ⟨ω, N, E, b, env, r, Tr.All_mono ((Tr.All_bind _ _ _ _).mp q) fun x c qa H1 k1 o1 => ?_⟩
  cases x with
  | true => exact ⟨ω, N, E, c, env, r.move k1 o1, Tr.All_mono qa fun y c2 qb v H2 k2 o2 i2 => qb v H2 (k1.trans k2) o2 (RK.back k1 o1 i2)⟩
  | false => exact ⟨ω, N, E, c, env, r.move k1 o1, Tr.All_mono qa fun y c2 qb v H2 k2 o2 i2 => qb v H2 (k1.trans k2) o2 (RK.back k1 o1 i2)⟩
/-- and, or, not as values -/
def vAnd (f g : FE) : FE := fun env => (f env).bind fun d => match d with
  | .bool true => g env
  | .bool false => .ret (.bool false)
  | _ => .fail
def vOr (f g : FE) : FE := fun env => (f env).bind fun d => match d with
  | .bool false => g env
  | .bool true => .ret (.bool true)
  | _ => .fail
def vNot (f : FE) : FE := fun env => (f env).bind fun d => match d with
  | .bool c => .ret (.bool (!c))
  | _ => .fail
theorem xe_one {op} {kd : Kd} (ha : XE X kd a fa) : XE X kd (.BoolOp op [a] pos) fa := pe_one ha
theorem xe_and (ha : XE X .v a fa) (hb : XE X .v (.BoolOp .And (b :: rest) pos) fb) : XE X .v (.BoolOp .And (a :: b :: rest) pos) (vAnd fa fb) := weak (pe_and ha hb) fun σ H Q ⟨ω, N, E, b, env, r, q⟩ => by
  refine ⟨ω, N, E, b, env, r, Tr.All_mono ((Tr.All_bind _ _ _ _).mp q) fun x c qa v H1 k1 o1 i1 => ?_⟩
  cases x with
  | bool k =>
    refine ⟨k, In.bool_inv i1, ?_⟩
    cases k with
    | true => exact ⟨ω, N, E, c, env, r.move k1 o1, Tr.All_mono qa fun y c2 qb v H2 k2 o2 i2 => qb v H2 (k1.trans k2) o2 (RK.back k1 o1 i2)⟩
    | false => exact qa _ H1 k1 o1 (.bl false)
  | _ => exact qa.elim
end
def eChain (g g' : D → D → Option D) (fa fb fc : FE) : FE := fun env => (fa env).bind fun x => (fb env).bind fun y => match g x y with
  | some (.bool true) => (fc env).bind fun z => Tr.ofOpt (g' y z)
  | some (.bool false) => .ret (.bool false)
  | _ => .fail
theorem readC {K : PySem.W.Frag} {fa fb fc : FE} {g g' : D → D → Option D} {σ : L2.St} {H : Hp} {Q : VK} (h : tX K .v (eChain g g' fa fb fc) σ H Q) :
    tChain (rD2 K g .v) (rD2 K g' .v) (tX K .b fa) (tX K .b fb) (tX K .b fc) σ H Q := by
  obtain ⟨ω, N, E, b, env, r, q⟩ := h
  refine ⟨ω, N, E, b, env, r, Tr.All_mono ((Tr.All_bind _ _ _ _).mp q) fun x c qa v H1 k1 o1 i1 => ?_⟩
  refine ⟨ω, N, E, c, env, r.move k1 o1, Tr.All_mono ((Tr.All_bind _ _ _ _).mp qa) fun y c2 qb u H2 k2 o2 i2 => ?_⟩
  have r2 := (r.move k1 o1).move k2 o2
  cases e : g x y with
  | none => rw [e] at qb; exact qb.elim
  | some d =>
    rw [e] at qb
    refine ⟨ω, N, x, y, d, r.om, r2.dom, InB.keep i1 r.om k2, i2, e, fun v' H3 s3 i3 => ?_⟩
    cases d with
    | bool k =>
      refine ⟨k, In.bool_inv i3, ?_⟩
      cases k with
      | true =>
        have r3 := r2.move (Keep.of s3) (o2.same s3)
        refine ⟨ω, N, E, c2, env, r3, Tr.All_mono ((Tr.All_bind _ _ _ _).mp qb) fun z c3 qc w H4 k4 o4 i4 => ?_⟩
        cases e' : g' y z with
        | none => rw [e'] at qc; exact qc.elim
        | some d' =>
          rw [e'] at qc
          have k24 : Keep ω H2 H4 := (Keep.of s3).trans k4
          exact ⟨ω, N, y, z, d', r.om, (r3.move k4 o4).dom, InB.keep i2 r.om k24, i4, e', fun v5 H5 s5 i5 => qc v5 H5 (((k1.trans k2).trans k24).trans (Keep.of s5)) (o4.same s5) i5⟩
      | false => exact qb _ H3 ((k1.trans k2).trans (Keep.of s3)) (o2.same s3) (.bl false)
    | _ => exact qb.elim
theorem xe_chain {op op' : CmpOp} {a b c : Expr} {fa fb fc : FE} {g g' : D → D → Option D} {pos : Pos} (ho : OpR X (compareOp op) (rD2 X.K g .v)) (ho' : OpR X (compareOp op') (rD2 X.K g' .v)) (ha : XE X .b a fa) (hb : XE X .b b fb) (hc : XE X .b c fc)
    (hm : lastMarks [op, op'] [b, c] = false := by with_unfolding_all rfl) : XE X .v (.Compare a [op, op'] [b, c] pos) (eChain g g' fa fb fc) := weak (pe_chain ho ho' ha hb hc hm) fun _ _ _ h => readC h
end
end DL
end
section
set_option linter.all false
set_option maxRecDepth 100000
namespace DL
open PySem PySem.Spec PyProof.Rows L2
section
variable {X : Cx}
theorem newT {pins : List (Addr × Obj)} {σ : List (Option V)} {H : Hp} {s : Shared} {t : Nat} {vs : List V} {ws : List Value} (I : Inv X pins σ H s) (r : Vals vs ws) (z : vs.length ≤ sizeLine) :
    Inv X pins σ (upd H s.heap.objs.size (.frz { cls := .type "tuple", data := .seq ws.toArray } (.tup vs))) { s with heap := s.heap.push { cls := .type "tuple", data := .seq ws.toArray }, toks := t } :=
  I.laid (fun _ _ g => Heap.get?_push_of_some _ g) (Nat.le_refl _) ⟨Heap.get?_push_size _ rfl, z, ws, r, IsTup.new _ _⟩
/-- what a rule asks of the wanted end where it makes a tuple -/
def QT (Q : VK) (H : Hp) (vs : List V) : Prop := ∀ (p : Addr) (o : Obj), H p = none → o.dict = none → Q (.ref p) (upd H p (.frz o (.tup vs)))
theorem QT.at {Q : VK} {pins : List (Addr × Obj)} {σ : List (Option V)} {H : Hp} {s : Shared} {vs : List V} {ws : List Value} (q : QT Q H vs) (I : Inv X pins σ H s) (r : Vals vs ws) (z : vs.length ≤ sizeLine) :
    EP X pins σ Q (.ref s.heap.objs.size) { s with heap := s.heap.push { cls := .type "tuple", data := .seq ws.toArray } } :=
  ⟨.ref s.heap.objs.size, _, newT (t := s.toks) I r z, rfl, q _ _ (I.hok.fresh (Nat.le_refl _)) rfl⟩
def tTupF (t : TA) : TE := fun σ H Q => t σ H fun vs H1 => vs.length ≤ sizeLine ∧ QT Q H1 vs
theorem pe_tupF {es : List Expr} {t : TA} {pos : Pos} {x1} (h : PA X es t) : PE X (.Tuple es x1 pos) (tTupF t) :=
  ⟨fun pins s σ H Q I hq => wpAny_Tuple_spliced (thn (h.run pos pins s σ H _ I hq) fun ws s1 ⟨vs, H1, I1, r, z, q⟩ => ⟨by rw [← r.length]; exact z, q.at I1 r z⟩)⟩
def rTupF (K : PySem.W.Frag) : List V → Hp → VK → Prop := fun us H Q => ∃ p vs, us = [.ref p] ∧ ((SqL K H p vs ∧ QT Q H vs) ∨ (SqT K H p vs ∧ Q (.ref p) H))
theorem call_tupF : CallR X (.type "tuple") (rTupF X.K) := by
  intro pins s σ H us ws Q I rw0 ⟨p, vs, e, h⟩
  rcases h with ⟨hq, q⟩ | ⟨hq, q⟩
  · subst e
    obtain ⟨w, e, rx⟩ := vals1 rw0
    subst e
    cases rx
    obtain ⟨its, r, pl, hz⟩ := I.list hq
    have hn : its.length ≤ sizeLine := by rw [← r.length]; exact hz
    refine call_tuple_list pl.isList (fun h' kp => ?_) (by rw [List.size_toArray]; exact hn)
    have I1 : Inv X pins σ H { s with heap := h' } := I.kept (t' := s.toks) kp
    exact q.at I1 r hz
  · exact call_tuple_of pins s σ H us ws Q I rw0 ⟨p, vs, e, .inr ⟨hq, q⟩⟩
def rCatF (K : PySem.W.Frag) : R2 := fun x y H Q => ∃ a b vs ws, x = .ref a ∧ y = .ref b ∧ SqT K H a vs ∧ SqT K H b ws ∧ vs.length + ws.length ≤ sizeLine ∧
  (vs = [] → Q (.ref b) H) ∧ (vs ≠ [] → ws = [] → Q (.ref a) H) ∧ (vs ≠ [] → ws ≠ [] → QT Q H (vs ++ ws))
theorem op_catF : OpR X (binaryOp .Add) (rCatF X.K) := by
  intro pins s σ H x y v u Q I rx ry ⟨a, b, vs, ws, ex, ey, ha, hb, hz, q0, q1, q2⟩
  by_cases hv : vs = []
  · exact op_catA pins s σ H x y v u Q I rx ry ⟨a, b, vs, ws, ex, ey, ha, hb, hz, q0, q1, fun e _ => absurd hv e⟩
  · subst ex ey
    cases rx
    cases ry
    obtain ⟨i1, r1, p1, _⟩ := I.tuple ha
    obtain ⟨i2, r2, p2, _⟩ := I.tuple hb
    refine HT.cat_tup p1 p2 (fun z => hv (r1.nil_iff.mp z)) (fun z => ⟨.ref a, H, I, rfl, q1 hv (r2.nil_iff.mp z)⟩) (fun z => ?_) (by rw [← r1.length, ← r2.length]; exact hz)
    exact (q2 hv fun w => z (r2.nil_iff.mpr w)).at I (r1.append r2) (by rw [List.length_append]; exact hz)
def rSlF (K : PySem.W.Frag) : V → Option Int → Option Int → Hp → VK → Prop := fun x lo hi H Q => ∃ a vs, x = .ref a ∧ SqT K H a vs ∧
  (HT.sIx vs.length 0 lo = 0 ∧ HT.sIx vs.length vs.length hi = vs.length → Q (.ref a) H) ∧ (¬ (HT.sIx vs.length 0 lo = 0 ∧ HT.sIx vs.length vs.length hi = vs.length) → QT Q H (cutV vs lo hi))
theorem sl_tupF : SlR X (rSlF X.K) := by
  intro pins s σ H x v vl vu lo hi sl Q I rx hs pl pu ⟨a, vs, ex, hx, q1, q2⟩
  by_cases hw : HT.sIx vs.length 0 lo = 0 ∧ HT.sIx vs.length vs.length hi = vs.length
  · exact sl_tupA pins s σ H x v vl vu lo hi sl Q I rx hs pl pu ⟨a, vs, ex, hx, q1, fun n => absurd hw n⟩
  · subst ex
    cases rx
    obtain ⟨its, r, ht, hz⟩ := I.tuple hx
    have hl : its.toArray.size = vs.length := by rw [List.size_toArray]; exact r.length.symm
    refine ⟨"tuple", _, PyProof.Rows.slot_tuple_getitem.lookup, ht.typeIs, ?_⟩
    refine HT.getItem_tuple_cut ht hs pl pu (by rw [hl]; exact hw) ?_ (by rw [hl]; exact hz)
    rw [hl]
    exact (q2 hw).at I ((r.drop (HT.sIx vs.length 0 lo)).take (HT.sIx vs.length vs.length hi - HT.sIx vs.length 0 lo)) (Nat.le_trans (cutV_length vs lo hi) hz)
end
section
variable {K : PySem.W.Frag} {ω : Option Om} {N : Addr → Prop} {H : Hp}
mutual
theorem In.dp : ∀ {d : D} {v : V}, In K N H v d → d.hasDict = false → Dp K H v d
  | .none, _, h, _ => by cases h; exact .non
  | .bool b, _, h, _ => by cases h; exact .bl b
  | .int i, _, h, _ => by cases h; exact .int i
  | .str x, _, h, _ => by cases h; exact .str x
  | .list ds, _, h, e => by
    obtain ⟨a, xs, rfl, ha, h⟩ := h.list_inv
    exact .lst (.inl (.inl ha)) (InAll.dp h (by simpa [PyData.hasDict] using e))
  | .tuple ds, _, h, e => by
    obtain ⟨a, xs, rfl, ha, h⟩ := h.tuple_inv
    exact .tup ha (InAll.dp h (by simpa [PyData.hasDict] using e))
  | .dict _, _, _, e => by simp [PyData.hasDict] at e
theorem InAll.dp : ∀ {ds : List D} {vs : List V}, InAll K N H vs ds → PyData.hasDictAll ds = false → DpAll K H vs ds
  | [], _, h, _ => by cases h; exact .nil
  | d :: ds, _, h, e => by
    cases h with
    | cons h1 h2 =>
      have e' : d.hasDict = false ∧ PyData.hasDictAll ds = false := by simpa [PyData.hasDictAll] using e
      exact .cons (In.dp h1 e'.1) (InAll.dp h2 e'.2)
end
theorem InAll.dpL {ds : List D} {vs : List V} (h : InAll K N H vs ds) {a : Addr} (ha : H a = some (.lst vs)) (e : PyData.hasDictAll ds = false) : Dp K H (.ref a) (.list ds) := .lst (.inl (.inl ha)) (h.dp e)
theorem InB.dp {d : D} {v : V} (h : InB K ω N H v d) (e : d.hasDict = false) : Dp K H v d := by
  rcases h with h | ⟨a, rfl, _, h⟩
  · exact h.dp e
  · cases d with
    | list ds => obtain ⟨xs, ha, h⟩ := h; exact h.dpL ha (by simpa [PyData.hasDict] using e)
    | dict es => simp [PyData.hasDict] at e
    | _ => exact h.elim
theorem shaped_noDict {d : D} (h : SeqAt.shaped d = true) : d.hasDict = false := PyData.hasDict_of_canLay d (SeqAt.canLay_of_shaped h)
/-- new things -/
theorem In.newTup {p : Addr} {o : Obj} {xs : List V} {ds : List D} (h : InAll K N H xs ds) (hp : H p = none) (dom : ∀ x, N x → H x ≠ none) (od : o.dict = none) : In K N (upd H p (.frz o (.tup xs))) (.ref p) (.tuple ds) :=
  .tup (fun z => dom p z hp) ⟨o, upd_same, od⟩ (h.mono (fun _ z => .inl z) fun x o e _ => same_new hp x o e)
theorem OwnAt.newLst {p : Addr} {xs : List V} {ds : List D} (h : InAll K N H xs ds) (hp : H p = none) : OwnAt K (addN N p) (upd H p (.lst xs)) p (.list ds) :=
  ⟨xs, upd_same, h.mono (fun x z => z.elim .inl fun e => .inr (by rw [e]; exact hp)) fun x o e _ => same_new hp x o e⟩
theorem RK.newLst {p : Addr} {xs : List V} {ds : List D} (h : InAll K N H xs ds) (hp : H p = none) : RK K ω N H (upd H p (.lst xs)) .o (.ref p) (.list ds) := ⟨p, rfl, hp, OwnAt.newLst h hp⟩
end
def dAdd : D → D → Option D
  | .int i, .int j => some (.int (i + j))
  | .str x, .str y => if x.length + y.length ≤ sizeLine then some (.str (x ++ y)) else none
  | .tuple xs, .tuple ys => if xs.length + ys.length ≤ sizeLine then some (.tuple (xs ++ ys)) else none
  | _, _ => none
def dCat : D → D → Option D
  | .list xs, .list ys => if xs.length + ys.length ≤ sizeLine then some (.list (xs ++ ys)) else none
  | _, _ => none
def dSub : D → D → Option D
  | .int i, .int j => some (.int (i - j))
  | _, _ => none
def dMul : D → D → Option D
  | .int i, .int j => if (-(2 ^ 64) < i ∧ i < 2 ^ 64) ∨ (-(2 ^ 64) < j ∧ j < 2 ^ 64) then some (.int (i * j)) else none
  | _, _ => none
def dRep : D → D → Option D
  | .list xs, .int k => if -(2 ^ 63) ≤ k ∧ k < 2 ^ 63 ∧ xs.length * k.toNat ≤ sizeLine then some (.list (List.replicate k.toNat xs).flatten) else none
  | _, _ => none
def dDiv : D → D → Option D
  | .int i, .int j => if 0 < j ∧ j < 1073741824 then some (.int (i / j)) else none
  | _, _ => none
def dMod : D → D → Option D
  | .int i, .int j => if 0 < j then some (.int (i % j)) else none
  | _, _ => none
def dInt (p : Int → Int → Bool) : D → D → Option D
  | .int i, .int j => some (.bool (p i j))
  | _, _ => none
abbrev dLt := dInt fun i j => decide (i < j)
abbrev dLe := dInt fun i j => decide (i ≤ j)
abbrev dGt := dInt fun i j => decide (j < i)
abbrev dGe := dInt fun i j => decide (j ≤ i)
def dEq (x y : D) : Option D := if SeqAt.shaped x = true ∧ SeqAt.shaped y = true then some (.bool (PyData.eqv x y)) else none
def dNe (x y : D) : Option D := if SeqAt.shaped x = true ∧ SeqAt.shaped y = true then some (.bool (!PyData.eqv x y)) else none
def isNone : D → Bool
  | .none => true
  | _ => false
def dIsN (x y : D) : Option D := if isNone y = true then some (.bool (isNone x)) else none
def dNotN (x y : D) : Option D := if isNone y = true then some (.bool (!isNone x)) else none
def flatD : D → Bool
  | .none | .bool _ | .int _ | .str _ => true
  | _ => false
def memD (x : D) (ds : List D) : Bool := ds.any fun y => PyData.eqv y x
def dIn (neg : Bool) (x : D) : D → Option D
  | .list ds => if flatD x = true ∧ ds.all flatD = true then some (.bool (if neg = true then !memD x ds else memD x ds)) else none
  | .tuple ds => if flatD x = true ∧ ds.all flatD = true then some (.bool (if neg = true then !memD x ds else memD x ds)) else none
  | _ => none
section
variable {K : PySem.W.Frag} {ω : Option Om} {N : Addr → Prop} {H : Hp}
theorem flat_in {v : V} {d : D} (h : In K N H v d) (f : flatD d = true) : flatV v = true := by
  cases h <;> first | rfl | exact absurd (show false = true from f) Bool.false_ne_true
theorem eqV_in {v u : V} {d e : D} (h : In K N H v d) (k : In K N H u e) (f : flatD d = true) (f2 : flatD e = true) : eqV v u = PyData.eqv d e := by
  cases h <;> cases k <;> first | rfl | exact absurd (show false = true from f) Bool.false_ne_true | exact absurd (show false = true from f2) Bool.false_ne_true | simp [eqV, PyData.eqv]
theorem flats_in : ∀ {vs : List V} {ds : List D}, InAll K N H vs ds → ds.all flatD = true → vs.all flatV = true
  | _, _, .nil, _ => rfl
  | _, _, .cons h t, f => by
    rw [List.all_cons, Bool.and_eq_true] at f
    rw [List.all_cons, flat_in h f.1, flats_in t f.2]
    rfl
theorem inV_in {v : V} {d : D} (h : In K N H v d) (f : flatD d = true) : ∀ {vs : List V} {ds : List D}, InAll K N H vs ds → ds.all flatD = true → inV v vs = memD d ds
  | _, _, .nil, _ => rfl
  | u :: vs, e :: ds, .cons k t, g => by
    rw [List.all_cons, Bool.and_eq_true] at g
    have q := inV_in h f t g.2
    unfold inV memD at q ⊢
    rw [List.any_cons, List.any_cons, eqV_in k h g.1 f, q]
theorem InB.flat {v : V} {d : D} (h : InB K ω N H v d) (f : flatD d = true) : In K N H v d := by
  rcases h with h | ⟨a, rfl, _, h⟩
  · exact h
  · cases d with
    | list _ => exact absurd (show false = true from f) Bool.false_ne_true
    | dict _ => exact absurd (show false = true from f) Bool.false_ne_true
    | _ => exact h.elim
end
section
variable {X : Cx}
theorem o_add : OpR X (binaryOp .Add) (rD2 X.K dAdd .v) := by
  intro pins s σ H x y v u Q I rx ry ⟨ω, N, d, e, z, om, dom, hx, hy, hg, k⟩
  cases d <;> cases e <;> first | (cases hg; done) | skip
  · cases hx.int
    cases hy.int
    cases hg
    exact op_add pins s σ H _ _ v u Q I rx ry ⟨_, _, rfl, rfl, k _ H (Same.refl H) (.int _)⟩
  · cases hx.str
    cases hy.str
    simp only [dAdd] at hg
    split at hg
    · cases hg
      rename_i hz
      exact op_add_str pins s σ H _ _ v u Q I rx ry ⟨_, _, rfl, rfl, hz, k _ H (Same.refl H) (.str _)⟩
    · cases hg
  · obtain ⟨a, xs, rfl, ha, h1⟩ := hx.tuple
    obtain ⟨b, ys, rfl, hb, h2⟩ := hy.tuple
    simp only [dAdd] at hg
    split at hg
    · cases hg
      rename_i hz
      refine op_catF pins s σ H _ _ v u Q I rx ry ⟨a, b, xs, ys, rfl, rfl, ha, hb, by rw [h1.length, h2.length]; exact hz, fun e => ?_, fun e e2 => ?_, fun e e2 p o hp od => ?_⟩
      · subst e
        cases h1
        rcases hy with hy | ⟨_, _, _, hy⟩
        · exact k _ H (Same.refl H) hy
        · exact hy.elim
      · subst e2
        cases h2
        rw [List.append_nil] at k
        rcases hx with hx | ⟨_, _, _, hx⟩
        · exact k _ H (Same.refl H) hx
        · exact hx.elim
      · exact k _ _ (same_new hp) (In.newTup (h1.append h2) hp dom od)
    · cases hg
theorem o_cat : OpR X (binaryOp .Add) (rD2 X.K dCat .o) := by
  intro pins s σ H x y v u Q I rx ry ⟨ω, N, d, e, z, om, dom, hx, hy, hg, k⟩
  cases d <;> cases e <;> first | (cases hg; done) | skip
  obtain ⟨a, xs, rfl, ha, h1⟩ := hx.list
  obtain ⟨b, ys, rfl, hb, h2⟩ := hy.list
  simp only [dCat] at hg
  split at hg
  · cases hg
    rename_i hz
    exact op_cat pins s σ H _ _ v u Q I rx ry ⟨a, b, xs, ys, rfl, rfl, ha, hb, by rw [h1.length, h2.length]; exact hz, fun p hp => k _ _ (same_new hp) (RK.newLst (h1.append h2) hp)⟩
  · cases hg
theorem o_sub : OpR X (binaryOp .Sub) (rD2 X.K dSub .v) := by
  intro pins s σ H x y v u Q I rx ry ⟨ω, N, d, e, z, om, dom, hx, hy, hg, k⟩
  cases d <;> cases e <;> first | (cases hg; done) | skip
  cases hx.int
  cases hy.int
  cases hg
  exact op_sub pins s σ H _ _ v u Q I rx ry ⟨_, _, rfl, rfl, k _ H (Same.refl H) (.int _)⟩
theorem o_mul : OpR X (binaryOp .Mult) (rD2 X.K dMul .v) := by
  intro pins s σ H x y v u Q I rx ry ⟨ω, N, d, e, z, om, dom, hx, hy, hg, k⟩
  cases d <;> cases e <;> first | (cases hg; done) | skip
  cases hx.int
  cases hy.int
  simp only [dMul] at hg
  split at hg
  · cases hg
    rename_i hz
    exact op_mul pins s σ H _ _ v u Q I rx ry ⟨_, _, rfl, rfl, hz, k _ H (Same.refl H) (.int _)⟩
  · cases hg
theorem o_rep : OpR X (binaryOp .Mult) (rD2 X.K dRep .o) := by
  intro pins s σ H x y v u Q I rx ry ⟨ω, N, d, e, z, om, dom, hx, hy, hg, k⟩
  cases d <;> cases e <;> first | (cases hg; done) | skip
  obtain ⟨a, xs, rfl, ha, h1⟩ := hx.list
  cases hy.int
  simp only [dRep] at hg
  split at hg
  · cases hg
    rename_i hz
    refine op_rep pins s σ H _ _ v u Q I rx ry ⟨a, _, xs, rfl, rfl, ha, hz.1, hz.2.1, by rw [h1.length]; exact hz.2.2, fun p hp => k _ _ (same_new hp) (RK.newLst ?_ hp)⟩
    clear hz k rx ry
    generalize Int.toNat _ = n
    induction n with
    | zero => exact .nil
    | succ n ih => rw [List.replicate_succ, List.replicate_succ, List.flatten_cons, List.flatten_cons]; exact h1.append ih
  · cases hg
theorem o_div : OpR X (binaryOp .FloorDiv) (rD2 X.K dDiv .v) := by
  intro pins s σ H x y v u Q I rx ry ⟨ω, N, d, e, z, om, dom, hx, hy, hg, k⟩
  cases d <;> cases e <;> first | (cases hg; done) | skip
  cases hx.int
  cases hy.int
  simp only [dDiv] at hg
  split at hg
  · cases hg
    rename_i hz
    exact op_fdiv pins s σ H _ _ v u Q I rx ry ⟨_, _, rfl, rfl, hz, k _ H (Same.refl H) (.int _)⟩
  · cases hg
theorem o_mod : OpR X (binaryOp .Mod) (rD2 X.K dMod .v) := by
  intro pins s σ H x y v u Q I rx ry ⟨ω, N, d, e, z, om, dom, hx, hy, hg, k⟩
  cases d <;> cases e <;> first | (cases hg; done) | skip
  cases hx.int
  cases hy.int
  simp only [dMod] at hg
  split at hg
  · cases hg
    rename_i hz
    exact op_mod pins s σ H _ _ v u Q I rx ry ⟨_, _, rfl, rfl, hz, k _ H (Same.refl H) (.int _)⟩
  · cases hg
theorem o_int {op : CmpOp} {p : Int → Int → Bool} (ho : OpR X (compareOp op) (rI0 fun i j => .bl (p i j))) : OpR X (compareOp op) (rD2 X.K (dInt p) .v) := by
  intro pins s σ H x y v u Q I rx ry ⟨ω, N, d, e, z, om, dom, hx, hy, hg, k⟩
  cases d <;> cases e <;> first | (cases hg; done) | skip
  cases hx.int
  cases hy.int
  cases hg
  exact ho pins s σ H _ _ v u Q I rx ry ⟨_, _, rfl, rfl, k _ H (Same.refl H) (.bl _)⟩
theorem o_lt : OpR X (compareOp .Lt) (rD2 X.K dLt .v) := o_int op_lt
theorem o_le : OpR X (compareOp .LtE) (rD2 X.K dLe .v) := o_int op_le
theorem o_gt : OpR X (compareOp .Gt) (rD2 X.K dGt .v) := o_int op_gt
theorem o_ge : OpR X (compareOp .GtE) (rD2 X.K dGe .v) := o_int op_ge
theorem o_eq (hu : X.A.units + 64 < cLine) : OpR X (compareOp .Eq) (rD2 X.K dEq .v) := by
  intro pins s σ H x y v u Q I rx ry ⟨ω, N, d, e, z, om, dom, hx, hy, hg, k⟩
  unfold dEq at hg
  split at hg
  · cases hg
    rename_i hs
    exact op_eqD hu pins s σ H _ _ v u Q I rx ry ⟨d, e, hx.dp (shaped_noDict hs.1), hy.dp (shaped_noDict hs.2), hs.1, hs.2, k _ H (Same.refl H) (.bl _)⟩
  · cases hg
theorem o_ne (hu : X.A.units + 64 < cLine) : OpR X (compareOp .NotEq) (rD2 X.K dNe .v) := by
  intro pins s σ H x y v u Q I rx ry ⟨ω, N, d, e, z, om, dom, hx, hy, hg, k⟩
  unfold dNe at hg
  split at hg
  · cases hg
    rename_i hs
    exact op_neD hu pins s σ H _ _ v u Q I rx ry ⟨d, e, hx.dp (shaped_noDict hs.1), hy.dp (shaped_noDict hs.2), hs.1, hs.2, k _ H (Same.refl H) (.bl _)⟩
  · cases hg
theorem isNone_in {ω : Option Om} {N : Addr → Prop} {H : Hp} {v : V} {d : D} (h : InB X.K ω N H v d) : decide (v = .non) = isNone d := by
  rcases h with h | ⟨a, rfl, _, h⟩
  · cases h <;> rfl
  · cases d with
    | list _ => rfl
    | dict _ => rfl
    | _ => exact h.elim
theorem o_isN : OpR X (compareOp .Is) (rD2 X.K dIsN .v) := by
  intro pins s σ H x y v u Q I rx ry ⟨ω, N, d, e, z, om, dom, hx, hy, hg, k⟩
  unfold dIsN at hg
  split at hg
  · cases hg
    rename_i hs
    cases e <;> first | (cases hs; done) | skip
    cases hy.none
    exact op_isN pins s σ H _ _ v u Q I rx ry ⟨rfl, k _ H (Same.refl H) (by rw [isNone_in hx]; exact .bl _)⟩
  · cases hg
theorem o_notN : OpR X (compareOp .IsNot) (rD2 X.K dNotN .v) := by
  intro pins s σ H x y v u Q I rx ry ⟨ω, N, d, e, z, om, dom, hx, hy, hg, k⟩
  unfold dNotN at hg
  split at hg
  · cases hg
    rename_i hs
    cases e <;> first | (cases hs; done) | skip
    cases hy.none
    exact op_notN pins s σ H _ _ v u Q I rx ry ⟨rfl, k _ H (Same.refl H) (by rw [isNone_in hx]; exact .bl _)⟩
  · cases hg
theorem o_inG {op : CmpOp} {neg : Bool} (ho : OpR X (compareOp op) (rIn X.K neg)) : OpR X (compareOp op) (rD2 X.K (dIn neg) .v) := by
  intro pins s σ H x y v u Q I rx ry ⟨ω, N, d, e, z, om, dom, hx, hy, hg, k⟩
  cases e <;> first | (cases hg; done) | skip
  · simp only [dIn] at hg
    split at hg
    · cases hg
      rename_i hs
      obtain ⟨a, xs, rfl, ha, h1⟩ := hy.list
      exact ho pins s σ H _ _ v u Q I rx ry ⟨a, xs, rfl, .inl (.inl (.inl ha)), flat_in (hx.flat hs.1) hs.1, flats_in h1 hs.2, k _ H (Same.refl H) (by rw [inV_in (hx.flat hs.1) hs.1 h1 hs.2]; exact .bl _)⟩
    · cases hg
  · simp only [dIn] at hg
    split at hg
    · cases hg
      rename_i hs
      obtain ⟨a, xs, rfl, ha, h1⟩ := hy.tuple
      exact ho pins s σ H _ _ v u Q I rx ry ⟨a, xs, rfl, .inr ha, flat_in (hx.flat hs.1) hs.1, flats_in h1 hs.2, k _ H (Same.refl H) (by rw [inV_in (hx.flat hs.1) hs.1 h1 hs.2]; exact .bl _)⟩
    · cases hg
theorem o_in : OpR X (compareOp .In) (rD2 X.K (dIn false) .v) := o_inG op_in_seq
theorem o_notin : OpR X (compareOp .NotIn) (rD2 X.K (dIn true) .v) := o_inG op_notIn_seq
end
end DL
end
section
set_option linter.all false
set_option maxRecDepth 100000
namespace DL
open PySem PySem.Spec PyProof.Rows L2
def InBs (K : PySem.W.Frag) (ω : Option Om) (N : Addr → Prop) (H : Hp) : List V → List D → Prop := Paired fun v d => InB K ω N H v d
abbrev FL := Ev → Tr (List D)
def tL (K : PySem.W.Frag) (f : FL) : TA := fun σ H Q => ∃ ω N E b env, RepE K ω N E H b env σ ∧ (f env).All b fun ds c => ∀ vs H', Keep ω H H' → OrcO ω c H' → InAll K N H' vs ds → Q vs H'
def tLB (K : PySem.W.Frag) (f : FL) : TA := fun σ H Q => ∃ ω N E b env, RepE K ω N E H b env σ ∧ (f env).All b fun ds c => ∀ vs H', Keep ω H H' → OrcO ω c H' → InBs K ω N H' vs ds → Q vs H'
def lNil : FL := fun _ => .ret []
def lCons (f : FE) (r : FL) : FL := fun env => (f env).bind fun d => (r env).bind fun ds => .ret (d :: ds)
section
variable {X : Cx} {e : Expr} {es : List Expr} {f : FE} {r : FL} {pos : Pos}
theorem xl_nil : PA X [] (tL X.K lNil) := weakA pa_nil fun σ H Q ⟨ω, N, E, b, env, r, q⟩ => q [] H Keep.refl r.orc .nil
theorem xlb_nil : PA X [] (tLB X.K lNil) := weakA pa_nil fun σ H Q ⟨ω, N, E, b, env, r, q⟩ => q [] H Keep.refl r.orc .nil
theorem xl_cons (h : XE X .v e f) (hr : PA X es (tL X.K r)) (hs : starEach (e :: es) X.env = (false, eval e X.env) :: starEach es X.env := by rfl) : PA X (e :: es) (tL X.K (lCons f r)) := weakA (pa_cons h hr hs) fun σ H Q ⟨ω, N, E, b, env, r, q⟩ => by
  refine ⟨ω, N, E, b, env, r, Tr.All_mono ((Tr.All_bind _ _ _ _).mp q) fun x c qa v H1 k1 o1 i1 => ?_⟩
  refine ⟨ω, N, E, c, env, r.move k1 o1, Tr.All_mono ((Tr.All_bind _ _ _ _).mp qa) fun xs c2 qb vs H2 k2 o2 i2 => qb _ H2 (k1.trans k2) o2 (.cons (In.keep i1 r.om k2) i2)⟩
theorem xlb_cons (h : XE X .b e f) (hr : PA X es (tLB X.K r)) (hs : starEach (e :: es) X.env = (false, eval e X.env) :: starEach es X.env := by rfl) : PA X (e :: es) (tLB X.K (lCons f r)) := weakA (pa_cons h hr hs) fun σ H Q ⟨ω, N, E, b, env, r, q⟩ => by
  refine ⟨ω, N, E, b, env, r, Tr.All_mono ((Tr.All_bind _ _ _ _).mp q) fun x c qa v H1 k1 o1 i1 => ?_⟩
  refine ⟨ω, N, E, c, env, r.move k1 o1, Tr.All_mono ((Tr.All_bind _ _ _ _).mp qa) fun xs c2 qb vs H2 k2 o2 i2 => qb _ H2 (k1.trans k2) o2 (.cons (InB.keep i1 r.om k2) i2)⟩
def eTup (r : FL) : FE := fun env => (r env).bind fun ds => if ds.length ≤ sizeLine then .ret (.tuple ds) else .fail
def eLst (r : FL) : FE := fun env => (r env).bind fun ds => if ds.length ≤ sizeLine then .ret (.list ds) else .fail
theorem xe_tup {x1} (h : PA X es (tL X.K r)) : XE X .v (.Tuple es x1 pos) (eTup r) := weak (pe_tupF h) fun σ H Q ⟨ω, N, E, b, env, r, q⟩ => by
  refine ⟨ω, N, E, b, env, r, Tr.All_mono ((Tr.All_bind _ _ _ _).mp q) fun xs c qa vs H1 k1 o1 i1 => ?_⟩
  split at qa
  · rename_i hz
    exact ⟨by rw [i1.length]; exact hz, fun p o hp od => qa _ _ (k1.trans (Keep.of (same_new hp))) (o1.same (same_new hp)) (In.newTup i1 hp (r.move k1 o1).dom od)⟩
  · exact qa.elim
theorem xe_lst (h : PA X es (tL X.K r)) : XE X .o (.List es pos) (eLst r) := weak (pe_lst h) fun σ H Q ⟨ω, N, E, b, env, r, q⟩ => by
  refine ⟨ω, N, E, b, env, r, Tr.All_mono ((Tr.All_bind _ _ _ _).mp q) fun xs c qa vs H1 k1 o1 i1 => ?_⟩
  split at qa
  · rename_i hz
    exact ⟨by rw [i1.length]; exact hz, fun p hp => qa _ _ (k1.trans (Keep.of (same_new hp))) (o1.same (same_new hp)) (RK.back (ω := ω) k1 o1 (RK.newLst i1 hp))⟩
  · exact qa.elim
def rDn (K : PySem.W.Frag) (g : List D → Option D) (kd : Kd) : List V → Hp → VK → Prop := fun vs H Q => ∃ ω N ds d, (∀ x, OmAt ω x → N x) ∧ (∀ x, N x → H x ≠ none) ∧ InBs K ω N H vs ds ∧ g ds = some d ∧
  ∀ v' H', Same H H' → RK K ω N H H' kd v' d → Q v' H'
def eCB (g : List D → Option D) (r : FL) : FE := fun env => (r env).bind fun ds => Tr.ofOpt (g ds)
theorem readN {K : PySem.W.Frag} {g : List D → Option D} {kd : Kd} {σ : L2.St} {H : Hp} {Q : VK} (h : tX K kd (eCB g r) σ H Q) : tCB (rDn K g kd) (tLB K r) σ H Q := by
  obtain ⟨ω, N, E, b, env, r, q⟩ := h
  refine ⟨ω, N, E, b, env, r, Tr.All_mono ((Tr.All_bind _ _ _ _).mp q) fun xs c qa vs H1 k1 o1 i1 => ?_⟩
  cases e : g xs with
  | none => rw [e] at qa; exact qa.elim
  | some d =>
    rw [e] at qa
    exact ⟨ω, N, xs, d, r.om, (r.move k1 o1).dom, i1, e, fun v' H' s' i' => qa v' H' (k1.trans (Keep.of s')) (o1.same s') (RK.back k1 o1 i')⟩
theorem xe_callB {x : Str} {p : Pos} {id : String} {g : List D → Option D} {kd : Kd} (hc : CallR X (.builtin id) (rDn X.K g kd)) (hg : Gl X x) (hm : X.mg x = none) (hv : bootBuiltins x = some (.builtin id)) (ha : PA X (e :: es) (tLB X.K r)) (hn : x ≠ "__name__" := by decide)
    (hdb : (x == ("__debug__" : Str)) = false := by decide) (he : starEach (e :: es) X.env = (false, eval e X.env) :: starEach es X.env := by rfl) (hpl : (backTo pos (starEach es X.env)).any (·.1) = false := by rfl) : XE X kd (.Call (.Name x p) (e :: es) [] pos) (eCB g r) :=
  weak (pe_callB hc hg hm hv ha hn hdb he hpl) fun _ _ _ h => readN h
theorem xe_callT {x : Str} {p : Pos} {T : String} {g : List D → Option D} {kd : Kd} (hc : CallR X (.type T) (rDn X.K g kd)) (hg : Gl X x) (hm : X.mg x = none) (hv : bootBuiltins x = some (.type T)) (ha : PA X (e :: es) (tLB X.K r)) (hn : x ≠ "__name__" := by decide)
    (hdb : (x == ("__debug__" : Str)) = false := by decide) (he : starEach (e :: es) X.env = (false, eval e X.env) :: starEach es X.env := by rfl) (hpl : (backTo pos (starEach es X.env)).any (·.1) = false := by rfl) : XE X kd (.Call (.Name x p) (e :: es) [] pos) (eCB g r) :=
  weak (pe_callTy hc hg hm hv ha hn hdb he hpl) fun _ _ _ h => readN h
end
theorem InBs.one {K : PySem.W.Frag} {ω : Option Om} {N : Addr → Prop} {H : Hp} {vs : List V} {d : D} (h : InBs K ω N H vs [d]) : ∃ v, vs = [v] ∧ InB K ω N H v d := by
  cases h with
  | cons a t => cases t; exact ⟨_, rfl, a⟩
theorem InBs.two {K : PySem.W.Frag} {ω : Option Om} {N : Addr → Prop} {H : Hp} {vs : List V} {d e : D} (h : InBs K ω N H vs [d, e]) : ∃ v u, vs = [v, u] ∧ InB K ω N H v d ∧ InB K ω N H u e := by
  cases h with
  | cons a t => cases t with
    | cons b t => cases t; exact ⟨_, _, rfl, a, b⟩
def dLen : List D → Option D
  | [.list ds] => some (.int (ds.length : Nat))
  | [.tuple ds] => some (.int (ds.length : Nat))
  | [.str x] => if x.length ≤ sizeLine then some (.int (x.length : Nat)) else none
  | _ => none
def dInt1 : List D → Option D
  | [.int i] => some (.int i)
  | [.bool k] => some (.int (if k then 1 else 0))
  | _ => none
def dList : List D → Option D
  | [.list ds] => some (.list ds)
  | [.tuple ds] => some (.list ds)
  | _ => none
def dTuple : List D → Option D
  | [.list ds] => some (.tuple ds)
  | [.tuple ds] => some (.tuple ds)
  | _ => none
def dMax2 : List D → Option D
  | [.int i, .int j] => some (.int (if j > i then j else i))
  | _ => none
def dMin2 : List D → Option D
  | [.int i, .int j] => some (.int (if j < i then j else i))
  | _ => none
def intOf : D → Option Int
  | .int i => some i
  | _ => none
section
variable {X : Cx}
theorem c_len : CallR X (.builtin "len") (rDn X.K dLen .v) := by
  intro pins s σ H xs us Q I rx ⟨ω, N, ds, d, om, dom, hx, hg, k⟩
  match ds, hg, hx with
  | [.list es], hg, hx =>
    obtain ⟨v, rfl, h⟩ := InBs.one hx
    obtain ⟨a, ys, rfl, ha, h1⟩ := h.list
    cases hg
    exact call_len_seq pins s σ H _ us Q I rx ⟨a, ys, rfl, .inl (.inl (.inl ha)), k _ H (Same.refl H) (by rw [h1.length]; exact .int _)⟩
  | [.tuple es], hg, hx =>
    obtain ⟨v, rfl, h⟩ := InBs.one hx
    obtain ⟨a, ys, rfl, ha, h1⟩ := h.tuple
    cases hg
    exact call_len_seq pins s σ H _ us Q I rx ⟨a, ys, rfl, .inr ha, k _ H (Same.refl H) (by rw [h1.length]; exact .int _)⟩
  | [.str x], hg, hx =>
    obtain ⟨v, rfl, h⟩ := InBs.one hx
    cases h.str
    simp only [dLen] at hg
    split at hg
    · cases hg
      rename_i hz
      exact call_len_str pins s σ H _ us Q I rx ⟨x, rfl, hz, k _ H (Same.refl H) (.int _)⟩
    · cases hg
theorem c_int : CallR X (.type "int") (rDn X.K dInt1 .v) := by
  intro pins s σ H xs us Q I rx ⟨ω, N, ds, d, om, dom, hx, hg, k⟩
  match ds, hg, hx with
  | [.int i], hg, hx =>
    obtain ⟨v, rfl, h⟩ := InBs.one hx
    cases h.int
    cases hg
    exact call_int1 pins s σ H _ us Q I rx (.inl ⟨i, rfl, k _ H (Same.refl H) (.int _)⟩)
  | [.bool i], hg, hx =>
    obtain ⟨v, rfl, h⟩ := InBs.one hx
    cases h.bool
    cases hg
    exact call_int1 pins s σ H _ us Q I rx (.inr ⟨i, rfl, k _ H (Same.refl H) (.int _)⟩)
theorem c_tuple : CallR X (.type "tuple") (rDn X.K dTuple .v) := by
  intro pins s σ H xs us Q I rx ⟨ω, N, ds, d, om, dom, hx, hg, k⟩
  match ds, hg, hx with
  | [.list es], hg, hx =>
    obtain ⟨v, rfl, h⟩ := InBs.one hx
    obtain ⟨a, ys, rfl, ha, h1⟩ := h.list
    cases hg
    exact call_tupF pins s σ H _ us Q I rx ⟨a, ys, rfl, .inl ⟨.inl (.inl ha), fun p o hp od => k _ _ (same_new hp) (In.newTup h1 hp dom od)⟩⟩
  | [.tuple es], hg, hx =>
    obtain ⟨v, rfl, h⟩ := InBs.one hx
    have h0 := h
    obtain ⟨a, ys, rfl, ha, h1⟩ := h.tuple
    cases hg
    refine call_tuple_of pins s σ H _ us Q I rx ⟨a, ys, rfl, .inr ⟨ha, k _ H (Same.refl H) ?_⟩⟩
    rcases h0 with h0 | ⟨_, _, _, h0⟩
    · exact h0
    · exact h0.elim
theorem c_max2 (hc : X.calm = true) : CallR X (.builtin "max") (rDn X.K dMax2 .v) := by
  intro pins s σ H xs us Q I rx ⟨ω, N, ds, d, om, dom, hx, hg, k⟩
  match ds, hg, hx with
  | [.int i, .int j], hg, hx =>
    obtain ⟨v, u, rfl, h, h2⟩ := InBs.two hx
    cases h.int
    cases h2.int
    cases hg
    exact call_max2 hc pins s σ H _ us Q I rx ⟨i, j, rfl, k _ H (Same.refl H) (.int _)⟩
theorem c_min2 (hc : X.calm = true) : CallR X (.builtin "min") (rDn X.K dMin2 .v) := by
  intro pins s σ H xs us Q I rx ⟨ω, N, ds, d, om, dom, hx, hg, k⟩
  match ds, hg, hx with
  | [.int i, .int j], hg, hx =>
    obtain ⟨v, u, rfl, h, h2⟩ := InBs.two hx
    cases h.int
    cases h2.int
    cases hg
    exact call_min2 hc pins s σ H _ us Q I rx ⟨i, j, rfl, k _ H (Same.refl H) (.int _)⟩
end
def dIx : D → D → Option D
  | .list ds, .int i => atI ds i
  | .tuple ds, .int i => atI ds i
  | _, _ => none
theorem atI_in {K : PySem.W.Frag} {N : Addr → Prop} {H : Hp} {vs : List V} {ds : List D} (h : InAll K N H vs ds) {i : Int} {d : D} (e : atI ds i = some d) : ∃ v, atI vs i = some v ∧ In K N H v d := by
  unfold atI at e ⊢
  rw [h.length]
  cases q : ixN ds.length i with
  | none => rw [q] at e; cases e
  | some j =>
    rw [q] at e
    exact h.get' e
section
variable {X : Cx} {a b : Expr} {fa fb : FE} {pos : Pos}
theorem x_ix : IxR X (rD2 X.K dIx .v) := by
  intro value slice pins s σ H x y v u Q I rx ry ⟨ω, N, d, e, z, om, dom, hx, hy, hg, k⟩ hs
  cases d <;> cases e <;> first | (cases hg; done) | skip
  · obtain ⟨p, xs, rfl, hp, h1⟩ := hx.list
    cases hy.int
    obtain ⟨w, e1, h2⟩ := atI_in h1 hg
    exact ix_list value slice pins s σ H _ _ v u Q I rx ry ⟨p, xs, _, w, rfl, rfl, .inl (.inl hp), e1, k _ H (Same.refl H) h2⟩ hs
  · obtain ⟨p, xs, rfl, hp, h1⟩ := hx.tuple
    cases hy.int
    obtain ⟨w, e1, h2⟩ := atI_in h1 hg
    exact ix_tup value slice pins s σ H _ _ v u Q I rx ry ⟨p, xs, _, w, rfl, rfl, hp, e1, k _ H (Same.refl H) h2⟩ hs
theorem xe_ix (ha : XE X .b a fa) (hb : XE X .b b fb) (hs : PlainIx b) : XE X .v (.Subscript a b pos) (e2 dIx fa fb) := weak (pe_ix x_ix ha hb hs) fun _ _ _ h => read2 h
abbrev FO := Ev → Tr (Option Int)
def tO (K : PySem.W.Frag) (f : FO) : TO := fun σ H Q => ∃ ω N E b env, RepE K ω N E H b env σ ∧ (f env).All b fun d c => ∀ H', Keep ω H H' → OrcO ω c H' → Q d H'
def oNone : FO := fun _ => .ret none
def oSome (f : FE) : FO := fun env => (f env).bind fun d => match d with
  | .int i => .ret (some i)
  | _ => .fail
theorem weakO {e : Option Expr} {t t' : TO} (h : PO X e t) (k : ∀ σ H Q, t' σ H Q → t σ H Q) : PO X e t' := ⟨fun pins s σ H Q I q => h.run pins s σ H Q I (k σ H Q q)⟩
theorem xo_none : PO X none (tO X.K oNone) := weakO po_none fun σ H Q ⟨ω, N, E, b, env, r, q⟩ => q H Keep.refl r.orc
theorem xo_some (ha : XE X .b a fa) : PO X (some a) (tO X.K (oSome fa)) := weakO (po_some ha) fun σ H Q ⟨ω, N, E, b, env, r, q⟩ => by
  refine ⟨ω, N, E, b, env, r, Tr.All_mono ((Tr.All_bind _ _ _ _).mp q) fun x c qa v H1 k1 o1 i1 => ?_⟩
  cases x with
  | int i => exact ⟨i, InB.int i1, qa H1 k1 o1⟩
  | _ => exact qa.elim
def cutD (ds : List D) (lo hi : Option Int) : List D := (ds.drop (HT.sIx ds.length 0 lo)).take (HT.sIx ds.length ds.length hi - HT.sIx ds.length 0 lo)
theorem cut_in {K : PySem.W.Frag} {N : Addr → Prop} {H : Hp} {vs : List V} {ds : List D} (h : InAll K N H vs ds) (lo hi : Option Int) : InAll K N H (cutV vs lo hi) (cutD ds lo hi) := by
  unfold cutV cutD
  rw [h.length]
  exact (h.drop _).take _
def dSlL (lo hi : Option Int) : D → Option D
  | .list ds => some (.list (cutD ds lo hi))
  | _ => none
def dSlT (lo hi : Option Int) : D → Option D
  | .tuple ds => some (.tuple (cutD ds lo hi))
  | _ => none
def eSl (g : Option Int → Option Int → D → Option D) (fa : FE) (fl fh : FO) : FE := fun env => (fa env).bind fun d => (fl env).bind fun lo => (fh env).bind fun hi => Tr.ofOpt (g lo hi d)
def rDsl (K : PySem.W.Frag) (g : Option Int → Option Int → D → Option D) (kd : Kd) : V → Option Int → Option Int → Hp → VK → Prop := fun v lo hi H Q => ∃ ω N x d, (∀ x, OmAt ω x → N x) ∧ (∀ x, N x → H x ≠ none) ∧ InB K ω N H v x ∧ g lo hi x = some d ∧
  ∀ v' H', Same H H' → RK K ω N H H' kd v' d → Q v' H'
theorem x_slL : SlR X (rDsl X.K dSlL .o) := by
  intro pins s σ H x v vl vu lo hi sl Q I rx hs pl pu ⟨ω, N, d, z, om, dom, hx, hg, k⟩
  cases d <;> first | (cases hg; done) | skip
  obtain ⟨p, xs, rfl, hp, h1⟩ := hx.list
  cases hg
  exact sl_list pins s σ H _ v vl vu lo hi sl Q I rx hs pl pu ⟨p, xs, rfl, .inl (.inl hp), fun q hq => k _ _ (same_new hq) (RK.newLst (cut_in h1 lo hi) hq)⟩
theorem cut_whole {ds : List D} {lo hi : Option Int} (h : HT.sIx ds.length 0 lo = 0 ∧ HT.sIx ds.length ds.length hi = ds.length) : cutD ds lo hi = ds := by
  unfold cutD
  rw [h.1, h.2, List.drop_zero, Nat.sub_zero, List.take_length]
theorem x_slT : SlR X (rDsl X.K dSlT .v) := by
  intro pins s σ H x v vl vu lo hi sl Q I rx hs pl pu ⟨ω, N, d, z, om, dom, hx, hg, k⟩
  cases d <;> first | (cases hg; done) | skip
  have h0 := hx
  obtain ⟨p, xs, rfl, hp, h1⟩ := hx.tuple
  cases hg
  refine sl_tupF pins s σ H _ v vl vu lo hi sl Q I rx hs pl pu ⟨p, xs, rfl, hp, fun e => ?_, fun e q o hq od => k _ _ (same_new hq) (In.newTup (cut_in h1 lo hi) hq dom od)⟩
  rw [h1.length] at e
  rw [cut_whole e] at k
  rcases h0 with h0 | ⟨_, _, _, h0⟩
  · exact k _ H (Same.refl H) h0
  · exact h0.elim
theorem xe_slice {lo hi : Option Expr} {fl fh : FO} {p2 : Pos} {g : Option Int → Option Int → D → Option D} {kd : Kd} (hr : SlR X (rDsl X.K g kd)) (ha : XE X .b a fa) (hl : PO X lo (tO X.K fl)) (hh : PO X hi (tO X.K fh)) : XE X kd (.Subscript a (.Slice lo hi none p2) pos) (eSl g fa fl fh) :=
  weak (pe_slice hr ha hl hh) fun σ H Q ⟨ω, N, E, b, env, r, q⟩ => by
  refine ⟨ω, N, E, b, env, r, Tr.All_mono ((Tr.All_bind _ _ _ _).mp q) fun x c qa v H1 k1 o1 i1 => ?_⟩
  refine ⟨ω, N, E, c, env, r.move k1 o1, Tr.All_mono ((Tr.All_bind _ _ _ _).mp qa) fun l c2 qb H2 k2 o2 => ?_⟩
  refine ⟨ω, N, E, c2, env, (r.move k1 o1).move k2 o2, Tr.All_mono ((Tr.All_bind _ _ _ _).mp qb) fun u c3 qc H3 k3 o3 => ?_⟩
  cases e : g l u x with
  | none => rw [e] at qc; exact qc.elim
  | some d =>
    rw [e] at qc
    exact ⟨ω, N, x, d, r.om, (((r.move k1 o1).move k2 o2).move k3 o3).dom, InB.keep (InB.keep i1 r.om k2) r.om k3, e, fun v' H' s' i' => qc v' H' (((k1.trans k2).trans k3).trans (Keep.of s')) (o3.same s') (RK.back ((k1.trans k2).trans k3) o3 i')⟩
end
end DL
end
section
set_option linter.all false
set_option maxRecDepth 100000
namespace DL
open PySem PySem.Spec PyProof.Rows L2
section
variable (K : PySem.W.Frag)
def SlotA (ω : Option Om) (N : Addr → Prop) (H : Hp) : Slot → V → Prop
  | .val d, v => In K N H v d
  | .own _, _ => False
  | .orc, v => ∃ w, ω = some w ∧ v = .ref w.a ∧ w.tb = lamTabs K
def spD (k : Kd) (n : Nat) (F : List Slot → Tr D) : Sp := fun vs H Q _ => ∃ ω N b ss, ss.length = n ∧ (∀ x, OmAt ω x → N x) ∧ (∀ x, N x → H x ≠ none) ∧ (OrcO ω b H ∧ TB K ω) ∧ Paired (SlotA K ω N H) ss vs ∧
  (F ss).All b fun d c => ∀ v H', Keep ω H H' → OrcO ω c H' → RK K ω N H H' k v d → Q v H'
abbrev FA := Ev → Tr (List Slot)
def tAs (f : FA) : TA := fun σ H Q => ∃ ω N E b env, RepE K ω N E H b env σ ∧ (f env).All b fun ss c => ∀ vs H', Keep ω H H' → OrcO ω c H' → Paired (SlotA K ω N H') ss vs → Q vs H'
end
def aNil : FA := fun _ => .ret []
def aVal (f : FE) (r : FA) : FA := fun env => (f env).bind fun d => (r env).bind fun ss => .ret (.val d :: ss)
def aOrc (i : Nat) (r : FA) : FA := fun env => match env[i]? with
  | some (some .orc) => (r env).bind fun ss => .ret (.orc :: ss)
  | _ => .fail
section
variable {X : Cx} {e : Expr} {es : List Expr} {f : FE} {r : FA} {pos : Pos}
theorem xa_nil : PA X [] (tAs X.K aNil) := weakA pa_nil fun σ H Q ⟨ω, N, E, b, env, r, q⟩ => q [] H Keep.refl r.orc .nil
theorem xa_val (h : XE X .v e f) (hr : PA X es (tAs X.K r)) (hs : starEach (e :: es) X.env = (false, eval e X.env) :: starEach es X.env := by rfl) : PA X (e :: es) (tAs X.K (aVal f r)) := weakA (pa_cons h hr hs) fun σ H Q ⟨ω, N, E, b, env, r, q⟩ => by
  refine ⟨ω, N, E, b, env, r, Tr.All_mono ((Tr.All_bind _ _ _ _).mp q) fun x c qa v H1 k1 o1 i1 => ?_⟩
  refine ⟨ω, N, E, c, env, r.move k1 o1, Tr.All_mono ((Tr.All_bind _ _ _ _).mp qa) fun xs c2 qb vs H2 k2 o2 i2 => qb _ H2 (k1.trans k2) o2 (.cons (In.keep i1 r.om k2) i2)⟩
theorem xa_orc {i : Nat} (h : PE X e (tVar i)) (hr : PA X es (tAs X.K r)) (hs : starEach (e :: es) X.env = (false, eval e X.env) :: starEach es X.env := by rfl) : PA X (e :: es) (tAs X.K (aOrc i r)) := weakA (pa_cons h hr hs) fun σ H Q ⟨ω, N, E, b, env, r, q⟩ => by
  unfold aOrc at q
  split at q
  · rename_i ho
    obtain ⟨v, e1, w, e2, e3⟩ := r.slot i _ ho
    refine ⟨v, e1, ω, N, E, b, env, r, Tr.All_mono ((Tr.All_bind _ _ _ _).mp q) fun xs c qa vs H1 k1 o1 i1 => qa _ H1 k1 o1 (.cons ⟨w, e2, e3⟩ i1)⟩
  · exact q.elim
def eCall (F : List Slot → Tr D) (r : FA) : FE := fun env => (r env).bind F
theorem readF {F : List Slot → Tr D} {k : Kd} {n : Nat} {K : PySem.W.Frag} {σ : L2.St} {H : Hp} {Q : VK} (hn : ∀ env b P, (r env).All b P → (r env).All b fun ss c => ss.length = n ∧ P ss c) (h : tX K k (eCall F r) σ H Q) : tCall (spD K k n F) [] E0 (tAs K r) σ H Q := by
  obtain ⟨ω, N, E, b, env, r, q⟩ := h
  refine ⟨ω, N, E, b, env, r, Tr.All_mono (hn _ _ _ ((Tr.All_bind _ _ _ _).mp q)) fun ss c qa vs H1 k1 o1 i1 => ?_⟩
  obtain ⟨hl, qa⟩ := qa
  rw [List.append_nil]
  exact ⟨ω, N, c, ss, hl, r.om, (r.move k1 o1).dom, ⟨o1, r.tb⟩, i1, Tr.All_mono qa fun d c2 qb v H2 k2 o2 i2 => qb v H2 (k1.trans k2) o2 (RK.back k1 o1 i2)⟩
/-- how many arguments are written -/
def ArgN (r : FA) (n : Nat) : Prop := ∀ env b P, (r env).All b P → (r env).All b fun ss c => ss.length = n ∧ P ss c
theorem argN_nil : ArgN aNil 0 := fun _ _ _ h => ⟨rfl, h⟩
theorem argN_val {f : FE} {r : FA} {n : Nat} (h : ArgN r n) : ArgN (aVal f r) (n + 1) := fun env b P q => by
  refine (Tr.All_bind _ _ _ _).mpr (Tr.All_mono ((Tr.All_bind _ _ _ _).mp q) fun d c qa => ?_)
  refine (Tr.All_bind _ _ _ _).mpr (Tr.All_mono (h _ _ _ ((Tr.All_bind _ _ _ _).mp qa)) fun ss c2 ⟨e, qb⟩ => ⟨congrArg (· + 1) e, qb⟩)
theorem argN_orc {i : Nat} {r : FA} {n : Nat} (h : ArgN r n) : ArgN (aOrc i r) (n + 1) := fun env b P q => by
  unfold aOrc at q ⊢
  split at q
  · refine (Tr.All_bind _ _ _ _).mpr (Tr.All_mono (h _ _ _ ((Tr.All_bind _ _ _ _).mp q)) fun ss c2 ⟨e, qb⟩ => ⟨congrArg (· + 1) e, qb⟩)
  · exact q.elim
end
inductive Out where
  | nx (env : Ev)
  | bk (env : Ev)
  | ct (env : Ev)
  | rv (d : D)
abbrev FS := Ev → Tr Out
section
variable (K : PySem.W.Frag)
def Pres (N N' : Addr → Prop) (H H' : Hp) : Prop := ∀ v d, In K N H v d → In K N' H' v d
def Goes (ω : Option Om) (N0 N : Addr → Prop) (E H : Hp) (env' : Ev) (c : Nat) (P : L2.St → Hp → Prop) : Prop := ∀ N' H' σ', RepE K ω N' E H' c env' σ' → (∀ x, N0 x → N' x) → Pres K N N' H H' → P σ' H'
def EndR (k : Kd) (ω : Option Om) (N0 N : Addr → Prop) (E H : Hp) (D' : Ends) : Out → Nat → Prop
  | .nx env', c => Goes K ω N0 N E H env' c D'.nx
  | .bk env', c => Goes K ω N0 N E H env' c D'.bk
  | .ct env', c => Goes K ω N0 N E H env' c D'.ct
  | .rv d, c => ∀ v H', Keep ω E H' → OrcO ω c H' → RK K ω N0 E H' k v d → D'.rt v H'
def tS (k : Kd) (f : FS) : TS := fun D' σ H => ∃ ω N0 N E b env, RepE K ω N E H b env σ ∧ (∀ x, N0 x → N x) ∧ (∀ x, N0 x → E x ≠ none) ∧ (f env).All b (EndR K k ω N0 N E H D')
end
theorem Pres.refl {K : PySem.W.Frag} {N : Addr → Prop} {H : Hp} : Pres K N N H H := fun _ _ h => h
theorem Pres.trans {K : PySem.W.Frag} {N N1 N2 : Addr → Prop} {H H1 H2 : Hp} (a : Pres K N N1 H H1) (b : Pres K N1 N2 H1 H2) : Pres K N N2 H H2 := fun v d h => b v d (a v d h)
theorem Pres.keep {K : PySem.W.Frag} {ω : Option Om} {N : Addr → Prop} {H H1 : Hp} (om : ∀ x, OmAt ω x → N x) (k : Keep ω H H1) : Pres K N N H H1 := fun v d h => h.keep om k
theorem EndR.from {K : PySem.W.Frag} {k : Kd} {ω : Option Om} {N0 N N1 : Addr → Prop} {E H H1 : Hp} {D' : Ends} {out : Out} {c : Nat} (h : EndR K k ω N0 N E H D' out c) (p : Pres K N N1 H H1) : EndR K k ω N0 N1 E H1 D' out c := by
  cases out with
  | nx env => exact fun N' H' σ' r n q => h N' H' σ' r n (p.trans q)
  | bk env => exact fun N' H' σ' r n q => h N' H' σ' r n (p.trans q)
  | ct env => exact fun N' H' σ' r n q => h N' H' σ' r n (p.trans q)
  | rv d => exact h
theorem weakS {X : Cx} {st : Stmt} {t t' : TS} (h : PS X st t) (k : ∀ D σ H, t' D σ H → t D σ H) : PS X st t' := ⟨fun pins s σ H D I q => h.run pins s σ H D I (k D σ H q)⟩
theorem weakSs {X : Cx} {st : List Stmt} {t t' : TS} (h : PSs X st t) (k : ∀ D σ H, t' D σ H → t D σ H) : PSs X st t' := ⟨fun pins s σ H D I q => h.run pins s σ H D I (k D σ H q)⟩
abbrev XS (X : Cx) (k : Kd) (st : Stmt) (f : FS) : Prop := PS X st (tS X.K k f)
abbrev XSs (X : Cx) (k : Kd) (st : List Stmt) (f : FS) : Prop := PSs X st (tS X.K k f)
def sNext : FS := fun env => .ret (.nx env)
def sSeq (f g : FS) : FS := fun env => (f env).bind fun o => match o with
  | .nx env' => g env'
  | o => .ret o
section
variable {X : Cx} {k : Kd} {st : Stmt} {rest : List Stmt} {f g : FS} {pos : Pos}
theorem xss_nil : XSs X k [] sNext := weakSs pss_nil fun D σ H ⟨ω, N0, N, E, b, env, r, n0, e0, q⟩ => q N H σ r n0 Pres.refl
theorem xss_one (h : XS X k st f) : XSs X k [st] f := pss_one h
theorem xss_cons (h : XS X k st f) (h2 : XSs X k rest g) : XSs X k (st :: rest) (sSeq f g) := weakSs (pss_cons h h2) fun D σ H ⟨ω, N0, N, E, b, env, r, n0, e0, q⟩ => by
  refine ⟨ω, N0, N, E, b, env, r, n0, e0, Tr.All_mono ((Tr.All_bind _ _ _ _).mp q) fun o c qa => ?_⟩
  cases o with
  | nx env' => exact fun N' H' σ' r' n' p => ⟨ω, N0, N', E, c, env', r', n', e0, Tr.All_mono qa fun o2 c2 qb => qb.from p⟩
  | bk env' => exact qa
  | ct env' => exact qa
  | rv d => exact qa
theorem xs_never : XS X k st (fun _ => .fail) := weakS ps_never fun D σ H ⟨ω, N0, N, E, b, env, r, n0, e0, q⟩ => q.elim
def sRet (f : FE) : FS := fun env => (f env).bind fun d => .ret (.rv d)
theorem xs_ret {e : Expr} {f : FE} (hk : k ≠ .b) (h : XE X k e f) : XS X k (.Return (some e) pos) (sRet f) := weakS (ps_ret h) fun D σ H ⟨ω, N0, N, E, b, env, r, n0, e0, q⟩ => by
  refine ⟨ω, N, E, b, env, r, Tr.All_mono ((Tr.All_bind _ _ _ _).mp q) fun d c qa v H1 k1 o1 i1 => qa v H1 (r.keep.trans k1) o1 ?_⟩
  cases k with
  | b => exact absurd rfl hk
  | v => exact In.weak i1 n0
  | o =>
    obtain ⟨p, e1, z, i1⟩ := i1
    exact ⟨p, e1, r.keep.none r.orc z, i1.mono (fun x z => .inl (z.elim (fun y => .inl (n0 x y)) .inr)) (fun _ _ e _ => e) rfl⟩
  | t =>
    obtain ⟨p, vs, ds, e1, ed, z, hp, i1⟩ := i1
    exact ⟨p, vs, ds, e1, ed, r.keep.none r.orc z, hp, i1.mono (fun x z => .inl (n0 x z)) fun x o e _ => e⟩
/-- return x, x an own list or dict -/
def sRetOwn (i : Nat) : FS := fun env => match env[i]? with
  | some (some (.own d)) => .ret (.rv d)
  | _ => .fail
theorem xs_retOwn {e : Expr} {i : Nat} (h : PE X e (tVar i)) : XS X .o (.Return (some e) pos) (sRetOwn i) := weakS (ps_ret h) fun D σ H ⟨ω, N0, N, E, b, env, r, n0, e0, q⟩ => by
  unfold sRetOwn at q
  split at q
  · rename_i d ho
    obtain ⟨v, e1, a, e2, n, no, z, h1⟩ := r.slot i _ ho
    exact ⟨v, e1, q v H r.keep r.orc ⟨a, e2, z, h1.mono (fun x y => .inl (y.elim (n0 x) fun e => by rw [e]; exact n)) (fun _ _ e _ => e) rfl⟩⟩
  · exact q.elim
def sSet (i : Nat) (f : FE) : FS := fun env => (f env).bind fun d => .ret (.nx (env.set i (some (.val d))))
def sSetO (i : Nat) (f : FE) : FS := fun env => (f env).bind fun d => .ret (.nx (env.set i (some (.own d))))
theorem xs_set {i : Nat} {x : Str} {e : Expr} {f : FE} {pos' : Pos} (hN : X.N.Nodup) (hi : X.N[i]? = some x) (hx : Loc X.env.scope x) (h : XE X .v e f) (hs : swapsWith e (some (.Name x pos')) pos.line X.env = pure false := by rfl)
    (hf : X.fn x = true ∨ X.env.scope.names.lookup x = some .local := by first | exact .inl rfl | exact .inr rfl | assumption) : XS X k (.Assign [.Name x pos'] e pos) (sSet i f) := weakS (ps_set hN hi hx h hs hf) fun D σ H ⟨ω, N0, N, E, b, env, r, n0, e0, q⟩ => by
  refine ⟨ω, N, E, b, env, r, Tr.All_mono ((Tr.All_bind _ _ _ _).mp q) fun d c qa v H1 k1 o1 i1 => ?_⟩
  exact qa N H1 _ ((r.move k1 o1).setV i1) n0 (Pres.keep r.om k1)
theorem xs_setO {i : Nat} {x : Str} {e : Expr} {f : FE} {pos' : Pos} (hN : X.N.Nodup) (hi : X.N[i]? = some x) (hx : Loc X.env.scope x) (h : XE X .o e f) (hs : swapsWith e (some (.Name x pos')) pos.line X.env = pure false := by rfl)
    (hf : X.fn x = true ∨ X.env.scope.names.lookup x = some .local := by first | exact .inl rfl | exact .inr rfl | assumption) : XS X k (.Assign [.Name x pos'] e pos) (sSetO i f) := weakS (ps_set hN hi hx h hs hf) fun D σ H ⟨ω, N0, N, E, b, env, r, n0, e0, q⟩ => by
  refine ⟨ω, N, E, b, env, r, Tr.All_mono ((Tr.All_bind _ _ _ _).mp q) fun d c qa v H1 k1 o1 i1 => ?_⟩
  obtain ⟨p, rfl, hp, i1⟩ := i1
  refine qa (addN N p) H1 _ (r.own k1 o1 hp i1) (fun x z => .inl (n0 x z)) fun v d h => ?_
  exact h.mono (fun x z => z.elim .inl fun e => .inr (by rw [e]; exact hp)) fun x o e n => k1 x o e fun z => n (r.om x z)
def sExpr (f : FE) : FS := fun env => (f env).bind fun _ => .ret (.nx env)
theorem xs_expr {e : Expr} {f : FE} (h : XE X .b e f) (hs : swapsWith e none pos.line X.env = pure false := by rfl) : XS X k (.Expr e pos) (sExpr f) := weakS (ps_expr h hs) fun D σ H ⟨ω, N0, N, E, b, env, r, n0, e0, q⟩ => by
  refine ⟨ω, N, E, b, env, r, Tr.All_mono ((Tr.All_bind _ _ _ _).mp q) fun d c qa v H1 k1 o1 i1 => ?_⟩
  exact qa N H1 _ (r.move k1 o1) n0 (Pres.keep r.om k1)
def sIf (c : FT) (f g : FS) : FS := fun env => (c env).bind fun b => if b = true then f env else g env
theorem xs_if {c : Expr} {p q : List Stmt} {fc : FT} (hc : XT X c fc) (ha : XSs X k p f) (hb : XSs X k q g) : XS X k (.If c p q pos) (sIf fc f g) := weakS (ps_if hc ha hb) fun D σ H ⟨ω, N0, N, E, b, env, r, n0, e0, q⟩ => by
  refine ⟨ω, N, E, b, env, r, Tr.All_mono ((Tr.All_bind _ _ _ _).mp q) fun t c qa H1 k1 o1 => ?_⟩
  cases t with
  | true => exact ⟨ω, N0, N, E, c, env, r.move k1 o1, n0, e0, Tr.All_mono qa fun o c2 qb => qb.from (Pres.keep r.om k1)⟩
  | false => exact ⟨ω, N0, N, E, c, env, r.move k1 o1, n0, e0, Tr.All_mono qa fun o c2 qb => qb.from (Pres.keep r.om k1)⟩
end
end DL
end
section
set_option linter.all false
set_option maxRecDepth 100000
namespace DL
open PySem PySem.Spec PyProof.Rows L2
section
variable {K : PySem.W.Frag} {ω : Option Om} {N : Addr → Prop} {E H : Hp} {b : Nat} {env : Ev} {σ : L2.St}
theorem tabs_write {T : List (Addr × Str)} {H : Hp} {a : Addr} {o : HO} (h : LamX.Tabs T H) (n1 : ∀ q, (a, q) ∉ T) (n2 : ∀ c q, H a ≠ some (LamX.CodeO c q)) : LamX.Tabs T (upd H a o) := fun p mp => by
  obtain ⟨qs, q1, q2, q3⟩ := h p mp
  refine ⟨qs, (upd_ne fun z => n1 p.2 (by rw [← z]; exact mp)).trans q1, q2, fun p' cv got => ?_⟩
  obtain ⟨c0, e1, e2⟩ := q3 p' cv got
  exact ⟨c0, e1, (upd_ne fun z => n2 c0 p.2 (by rw [← z]; exact e2)).trans e2⟩
theorem code_dK {c : Addr} {q : Str} {m : List (Key × V)} : (some (HO.dK m) : Option HO) ≠ some (LamX.CodeO c q) := fun z => by
  have z' : HO.dK m = HO.ext _ := Option.some.inj z
  cases z'
theorem code_lst {c : Addr} {q : Str} {m : List V} : (some (HO.lst m) : Option HO) ≠ some (LamX.CodeO c q) := fun z => by
  have z' : HO.lst m = HO.ext _ := Option.some.inj z
  cases z'
theorem code_DTo {a : Addr} {xs : TEnt} {c : Addr} {q : Str} : (some (DTo a xs) : Option HO) ≠ some (LamX.CodeO c q) := fun z => by
  have z1 : DTo a xs = LamX.CodeO c q := Option.some.inj z
  have z2 := HO.ext.inj z1
  let ob : Obj := { cls := .none, data := .fields #[.none, .str q 0] }
  let hp : Heap := { objs := Array.replicate (c + 1) ob }
  have look : ∀ b, hp.get? b = if b < c + 1 then some ob else none := fun b => by
    unfold Heap.get?
    have e : hp.objs[b]? = if b < c + 1 then some ob else none := by
      show (Array.replicate (c + 1) ob)[b]? = _
      rw [Array.getElem?_replicate]
    rw [e]
    by_cases l : b < c + 1
    · rw [if_pos l]
    · rw [if_neg l]
  have yes : (fun h : Heap => ∃ (oc : Obj) (vs : Array Value) (t : Tok), h.get? c = some oc ∧ oc.data = .fields vs ∧ vs[1]? = some (.str q t)) hp := ⟨ob, #[.none, .str q 0], 0, by rw [look, if_pos (Nat.lt_succ_self c)], rfl, rfl⟩
  have no := (congrFun z2 hp).mpr yes
  obtain ⟨_, P, w, ys, _, o, es, ep, g, ex, d, _⟩ := no
  rw [look] at g
  split at g
  · cases g
    cases d
  · cases g
theorem OwnAt.noCode {K : PySem.W.Frag} {N : Addr → Prop} {H : Hp} {a : Addr} {d : D} (h : OwnAt K N H a d) {c : Addr} {q : Str} : H a ≠ some (LamX.CodeO c q) := by
  cases d with
  | list ds => obtain ⟨xs, e, _⟩ := h; rw [e]; exact code_lst
  | dict es =>
    rcases h.dictD with ⟨z, xs, e, _⟩ | ⟨z, kvs, e, _⟩
    · rw [e]; exact code_DTo
    · rw [e]; exact code_dK
  | _ => exact h.elim
theorem orc_upd {a : Addr} {o : HO} (h : OrcO ω b H) (ha : ¬ OmAt ω a) (hc : ∀ c q, H a ≠ some (LamX.CodeO c q)) : OrcO ω b (upd H a o) := by
  cases ω with
  | none => exact h
  | some w =>
    obtain ⟨h0, cells, great, n, h1, h2, h3, h4⟩ := h
    have e1 : w.a ≠ a := fun z => ha (.inl z.symm)
    have e2 : w.c ≠ a := fun z => ha (.inr (.inl z.symm))
    have e3 : w.g ≠ a := fun z => ha (.inr (.inr (.inl z.symm)))
    exact ⟨tabs_write h0 (fun q m => ha (.inr (.inr (.inr ⟨q, m⟩)))) hc, cells, great, n, by rw [upd_ne e1]; exact h1, by rw [upd_ne e2]; exact h2, by rw [upd_ne e3]; exact h3, h4⟩
theorem RepE.write {i : Nat} {d d' : D} {a : Addr} {o : HO} (r : RepE K ω N E H b env σ) (hi : env[i]? = some (some (.own d))) (hs : σ[i]? = some (some (.ref a))) (na : N a) (no : ¬ OmAt ω a) (ea : E a = none) (h : OwnAt K N (upd H a o) a d') :
    RepE K ω N E (upd H a o) b (env.set i (some (.own d'))) σ := by
  have kk : ∀ x ob, H x = some ob → ¬ N x → upd H a o x = some ob := fun x ob e n => by
    rw [upd_ne (fun z => n (by rw [z]; exact na))]
    exact e
  have hl : i < env.length := by
    obtain ⟨q, _⟩ := List.getElem?_eq_some_iff.mp hi
    exact q
  refine ⟨by rw [List.length_set]; exact r.len, fun j s e => ?_, fun j k dj dk c hjk e1 e2 e3 e4 => ?_, fun x hx => ?_, r.om, orc_upd r.orc no (by
    obtain ⟨v, e1, a', e2, _, _, _, h0⟩ := r.slot i _ hi
    rw [hs] at e1
    cases e1
    cases e2
    exact fun c q => h0.noCode), fun x ob e n => ?_, r.tb⟩
  · by_cases z : i = j
    · subst z
      rw [List.getElem?_set_self hl] at e
      cases e
      exact ⟨_, hs, a, rfl, na, no, ea, h⟩
    · rw [List.getElem?_set_ne z] at e
      obtain ⟨v, e1, q⟩ := r.slot j s e
      refine ⟨v, e1, ?_⟩
      cases s with
      | val d => exact In.mono (fun _ z => .inl z) kk q
      | own dj =>
        obtain ⟨c, e2, n, nc, z2, q⟩ := q
        subst e2
        have nca : c ≠ a := fun y => r.sep i j d dj a z hi e (by exact hs) (by rw [← y]; exact e1)
        exact ⟨c, rfl, n, nc, z2, q.mono (fun _ z => .inl z) kk (upd_ne nca)⟩
      | orc => exact q
  · have f : ∀ (m : Nat) (dm : D), (env.set i (some (.own d')))[m]? = some (some (.own dm)) → ∃ dm', env[m]? = some (some (.own dm')) := fun m dm e => by
      by_cases z : i = m
      · subst z
        exact ⟨d, hi⟩
      · rw [List.getElem?_set_ne z] at e
        exact ⟨dm, e⟩
    obtain ⟨dj', e1⟩ := f j dj e1
    obtain ⟨dk', e2⟩ := f k dk e2
    exact r.sep j k dj' dk' c hjk e1 e2 e3 e4
  · by_cases z : x = a
    · rw [z, upd_same]; exact fun q => nomatch q
    · rw [upd_ne z]; exact r.dom x hx
  · have z : x ≠ a := fun z => by rw [z, ea] at e; cases e
    rw [upd_ne z]
    exact r.keep x ob e n
theorem pres_write {a : Addr} {o : HO} (na : N a) : Pres K N N H (upd H a o) := fun v d h => h.mono (fun _ z => .inl z) fun x ob e n => by
  rw [upd_ne (fun z => n (by rw [z]; exact na))]
  exact e
/-- an own thing is own no more -/
def frz (i : Nat) (env : Ev) : Ev := match env[i]? with
  | some (some (.own d)) => env.set i (some (.val d))
  | _ => env
theorem RepE.frz {i : Nat} (r : RepE K ω N E H b env σ) : ∃ N', RepE K ω N' E H b (frz i env) σ ∧ (∀ x, N' x → N x) ∧ (∀ x, N x → E x ≠ none → N' x) := by
  unfold DL.frz
  split
  · rename_i d hi
    obtain ⟨v, hs, a, e2, na, no, ea, h⟩ := r.slot i _ hi
    subst e2
    have hl : i < env.length := by
      obtain ⟨q, _⟩ := List.getElem?_eq_some_iff.mp hi
      exact q
    refine ⟨fun x => N x ∧ x ≠ a, ⟨by rw [List.length_set]; exact r.len, fun j s e => ?_, fun j k dj dk c hjk e1 e2 e3 e4 => ?_, fun x hx => r.dom x hx.1, fun x hx => ⟨r.om x hx, fun z => no (by rw [← z]; exact hx)⟩, r.orc, r.keep, r.tb⟩, fun x hx => hx.1, fun x hx he => ⟨hx, fun z => he (by rw [z]; exact ea)⟩⟩
    · by_cases z : i = j
      · subst z
        rw [List.getElem?_set_self hl] at e
        cases e
        exact ⟨_, hs, (h.mono (N' := fun x => N x ∧ x ≠ a) (fun x z => .inl z.1) (fun _ _ e _ => e) rfl).in fun z => z.2 rfl⟩
      · rw [List.getElem?_set_ne z] at e
        obtain ⟨v, e1, q⟩ := r.slot j s e
        refine ⟨v, e1, ?_⟩
        cases s with
        | val d => exact In.weak q fun x z => z.1
        | own dj =>
          obtain ⟨c, e2, n, nc, z2, q⟩ := q
          subst e2
          exact ⟨c, rfl, ⟨n, fun y => r.sep i j d dj a z hi e hs (by rw [← y]; exact e1)⟩, nc, z2, q.mono (fun x z => .inl z.1) (fun _ _ e _ => e) rfl⟩
        | orc => exact q
    · have f : ∀ (m : Nat) (dm : D), (env.set i (some (.val d)))[m]? = some (some (.own dm)) → env[m]? = some (some (.own dm)) := fun m dm e => by
        by_cases z : i = m
        · subst z
          rw [List.getElem?_set_self hl] at e
          cases e
        · rwa [List.getElem?_set_ne z] at e
      exact r.sep j k dj dk c hjk (f j dj e1) (f k dk e2) e3 e4
  · exact ⟨N, r, fun _ h => h, fun _ h _ => h⟩
end
section
variable {X : Cx} {k : Kd} {st : Stmt} {rest : List Stmt} {f g : FS} {pos : Pos}
theorem xss_frz (i : Nat) (h : XSs X k rest f) : XSs X k rest (fun env => f (frz i env)) := weakSs h fun D' σ H ⟨ω, N0, N, E, b, env, r, n0, e0, q⟩ => by
  obtain ⟨N', r', h1, h2⟩ := r.frz (i := i)
  exact ⟨ω, N0, N', E, b, frz i env, r', fun x z => h2 x (n0 x z) (e0 x z), e0, Tr.All_mono q fun o c qo => qo.from fun v d hv => hv.weak h1⟩
/-- x.append(e) -/
def sApp (i : Nat) (f : FE) : FS := fun env => match env[i]? with
  | some (some (.own (.list ds))) => (f env).bind fun d => if ds.length < sizeLine then .ret (.nx (env.set i (some (.own (.list (ds ++ [d])))))) else .fail
  | _ => .fail
theorem xs_app {i : Nat} {f : FE} (h : PS X st (tDrop (tBM X.K "list" rAppend (tVar i) (tCons (tX X.K .v f) tNil)))) : XS X k st (sApp i f) := weakS h fun D' σ H ⟨ω, N0, N, E, b, env, r, n0, e0, q⟩ => by
  unfold sApp at q
  split at q
  · rename_i ds hi
    obtain ⟨v, hs, a, rfl, na, no, ea, xs, ha, h1⟩ := r.slot i _ hi
    refine ⟨_, hs, .inl ⟨rfl, xs, .inl (.inl ha)⟩, ω, N, E, b, env, r, Tr.All_mono ((Tr.All_bind _ _ _ _).mp q) fun d c qa v H1 k1 o1 i1 => ?_⟩
    have r1 := r.move k1 o1
    have ha1 : H1 a = some (.lst xs) := k1 _ _ ha no
    have h2 : InAll X.K N H1 xs ds := h1.keep r.om k1
    split at qa
    · rename_i hz
      refine ⟨a, xs, v, rfl, rfl, ha1, by rw [h1.length]; exact hz, ?_⟩
      refine qa N _ σ (r1.write hi hs na no ea ⟨xs ++ [v], upd_same, ?_⟩) n0 ((Pres.keep r.om k1).trans (pres_write na))
      exact (h2.append (.cons i1 .nil)).mono (fun _ z => .inl z) fun x ob e n => by
        rw [upd_ne (fun z => n (by rw [z]; exact na))]
        exact e
    · exact qa.elim
  · exact q.elim
/-- x[j] = e, x an own list -/
def sSetIx (i : Nat) (fj fv : FE) : FS := fun env => match env[i]? with
  | some (some (.own (.list ds))) => (fv env).bind fun d => (fj env).bind fun j => match j with
    | .int m => match ixN ds.length m with
      | some n => .ret (.nx (env.set i (some (.own (.list (ds.set n d))))))
      | none => .fail
    | _ => .fail
  | _ => .fail
theorem xs_setIx {i : Nat} {fj fv : FE} (h : PS X st (tAsg (tX X.K .v fv) (gSub (tVar i) (tX X.K .b fj) rSetL))) : XS X k st (sSetIx i fj fv) := weakS h fun D' σ H ⟨ω, N0, N, E, b, env, r, n0, e0, q⟩ => by
  unfold sSetIx at q
  split at q
  · rename_i ds hi
    obtain ⟨v, hs, a, rfl, na, no, ea, xs, ha, h1⟩ := r.slot i _ hi
    refine ⟨ω, N, E, b, env, r, Tr.All_mono ((Tr.All_bind _ _ _ _).mp q) fun d c qa v H1 k1 o1 i1 => ?_⟩
    have r1 := r.move k1 o1
    refine ⟨_, hs, ω, N, E, c, env, r1, Tr.All_mono ((Tr.All_bind _ _ _ _).mp qa) fun j c2 qb u H2 k2 o2 i2 => ?_⟩
    have r2 := r1.move k2 o2
    have ha2 : H2 a = some (.lst xs) := k2 _ _ (k1 _ _ ha no) no
    have h2 : InAll X.K N H2 xs ds := (h1.keep r.om k1).keep r.om k2
    cases j with
    | int m =>
      cases InB.int i2
      cases e : ixN ds.length m with
      | none => simp only [e] at qb; exact qb.elim
      | some n =>
        simp only [e] at qb
        refine ⟨a, xs, m, n, rfl, rfl, ha2, by rw [h1.length]; exact e, ?_⟩
        refine qb N _ σ (r2.write hi hs na no ea ⟨xs.set n v, upd_same, ?_⟩) n0 (((Pres.keep r.om k1).trans (Pres.keep r.om k2)).trans (pres_write na))
        exact (h2.set n (In.keep i1 r.om k2)).mono (fun _ z => .inl z) fun x ob e n => by
          rw [upd_ne (fun z => n (by rw [z]; exact na))]
          exact e
    | _ => exact qb.elim
  · exact q.elim
end
abbrev FG := D → Ev → Option Ev
abbrev FGs := List D → Ev → Option Ev
def tG (K : PySem.W.Frag) (f : FG) : TG := fun v σ H Q => ∃ ω N E b env d env', RepE K ω N E H b env σ ∧ In K N H v d ∧ f d env = some env' ∧ ∀ σ', RepE K ω N E H b env' σ' → Q σ' H
def tGs (K : PySem.W.Frag) (f : FGs) : TGs := fun vs σ H Q => ∃ ω N E b env ds env', RepE K ω N E H b env σ ∧ InAll K N H vs ds ∧ f ds env = some env' ∧ ∀ σ', RepE K ω N E H b env' σ' → Q σ' H
section
variable {X : Cx} {pos : Pos}
theorem weakG {e : Expr} {t t' : TG} (h : PG X e t) (k : ∀ v σ H Q, t' v σ H Q → t v σ H Q) : PG X e t' := ⟨fun pins s σ H v u Q I r q => h.run pins s σ H v u Q I r (k v σ H Q q)⟩
theorem weakGs {e : List Expr} {t t' : TGs} (h : PGs X e t) (k : ∀ v σ H Q, t' v σ H Q → t v σ H Q) : PGs X e t' := ⟨fun pins s σ H v u Q I r q => h.run pins s σ H v u Q I r (k v σ H Q q)⟩
def gN (i : Nat) : FG := fun d env => some (env.set i (some (.val d)))
theorem xg_name {i : Nat} {e : Expr} (h : PG X e (gName i)) : PG X e (tG X.K (gN i)) := weakG h fun v σ H Q ⟨ω, N, E, b, env, d, env', r, h, q, k⟩ => by
  cases q
  exact k _ (r.setV h)
def gsNil : FGs := fun ds env => match ds with
  | [] => some env
  | _ => none
def gsCons (f : FG) (g : FGs) : FGs := fun ds env => match ds with
  | d :: r => (f d env).bind fun env' => g r env'
  | _ => none
theorem xgs_nil : PGs X [] (tGs X.K gsNil) := weakGs pgs_nil fun v σ H Q ⟨ω, N, E, b, env, ds, env', r, h, q, k⟩ => by
  cases h with
  | nil => cases q; exact ⟨rfl, k σ r⟩
  | cons _ _ => cases q
theorem xgs_cons {e : Expr} {es : List Expr} {f : FG} {g : FGs} (h1 : PG X e (tG X.K f)) (h2 : PGs X es (tGs X.K g)) (hs : (assignEach (e :: es) X.env).map (·.2) = assign e X.env :: (assignEach es X.env).map (·.2) := by rfl) : PGs X (e :: es) (tGs X.K (gsCons f g)) :=
  weakGs (pgs_cons h1 h2 hs) fun v σ H Q ⟨ω, N, E, b, env, ds, env', r, h, q, k⟩ => by
  cases h with
  | nil => cases q
  | @cons v vs d ds h t =>
    have q : (f d env).bind (fun env' => g ds env') = some env' := q
    cases e1 : f d env with
    | none => rw [e1] at q; cases q
    | some env1 =>
      rw [e1] at q
      exact ⟨v, vs, rfl, ω, N, E, b, env, d, env1, r, h, e1, fun σ' r' => ⟨ω, N, E, b, env1, ds, env', r', t, q, k⟩⟩
def gT (n : Nat) (g : FGs) : FG := fun d env => match d with
  | .tuple ds => if ds.length = n then g ds env else none
  | _ => none
theorem xg_tup {es : List Expr} {k n : Nat} {g : FGs} (hc : X.calm = true) (h : PGs X es (tGs X.K g)) (hn : (assignEach es X.env).length = n := by rfl) (hst : (assignEach es X.env).findIdx? (·.1) = none := by rfl) :
    PG X (.Tuple es k pos) (tG X.K (gT n g)) := weakG (pg_tup hc h hn hst) fun v σ H Q ⟨ω, N, E, b, env, d, env', r, h, q, k⟩ => by
  cases d with
  | tuple ds =>
    obtain ⟨a, xs, rfl, ha, h1⟩ := h.tuple_inv
    simp only [gT] at q
    split at q
    · rename_i hl
      exact ⟨a, xs, rfl, ha, by rw [h1.length]; exact hl, ω, N, E, b, env, ds, env', r, h1, q, k⟩
    · cases q
  | _ => cases q
/-- target = e -/
def sAsg (f : FE) (g : FG) : FS := fun env => (f env).bind fun d => match g d env with
  | some env' => .ret (.nx env')
  | none => .fail
theorem xs_asg {k : Kd} {st : Stmt} {f : FE} {g : FG} (h : PS X st (tAsg (tX X.K .v f) (tG X.K g))) : XS X k st (sAsg f g) := weakS h fun D' σ H ⟨ω, N0, N, E, b, env, r, n0, e0, q⟩ => by
  refine ⟨ω, N, E, b, env, r, Tr.All_mono ((Tr.All_bind _ _ _ _).mp q) fun d c qa v H1 k1 o1 i1 => ?_⟩
  cases e : g d env with
  | none => simp only [e] at qa; exact qa.elim
  | some env' =>
    simp only [e] at qa
    exact ⟨ω, N, E, c, env, d, env', r.move k1 o1, i1, e, fun σ' r' => qa N H1 σ' r' n0 (Pres.keep r.om k1)⟩
end
def forD (tgt : FG) (body : FS) : List D → FS
  | [], env => .ret (.nx env)
  | d :: ds, env => match tgt d env with
    | some env1 => (body env1).bind fun o => match o with
      | .nx env' => forD tgt body ds env'
      | .ct env' => forD tgt body ds env'
      | .bk env' => .ret (.nx env')
      | .rv x => .ret (.rv x)
    | none => .fail
def rngD (lo : Int) (n : Nat) : List D := (List.range n).map fun i => .int (lo + (i : Nat))
def ok62 (i : Int) : Bool := decide (-(2 ^ 62) ≤ i ∧ i < 2 ^ 62)
/-- range(..) of one or two rngD: where it begins, how many -/
def rngOf : List D → Option (Int × Nat)
  | [.int j] => if ok62 j = true then some (0, j.toNat) else none
  | [.int i, .int j] => if ok62 i = true ∧ ok62 j = true then some (i, (j - i).toNat) else none
  | _ => none
def sForR (r : FL) (tgt : FG) (body : FS) : FS := fun env => (r env).bind fun ds => match rngOf ds with
  | some (lo, n) => forD tgt body (rngD lo n) env
  | none => .fail
section
variable {X : Cx} {k : Kd} {st : Stmt} {pos : Pos}
/-- one turn of a loop over items -/
theorem turn_for {K : PySem.W.Frag} {k : Kd} {ω : Option Om} {N0 N N1 : Addr → Prop} {E H H1 : Hp} {D' : Ends} {tgt : FG} {body : FS} {d : D} {ds : List D} {env : Ev} {σ : L2.St} {b : Nat} {v : V} {W : L2.St → Hp → Prop}
    (r : RepE K ω N1 E H1 b env σ) (n0 : ∀ x, N0 x → N1 x) (e0 : ∀ x, N0 x → E x ≠ none) (p : Pres K N N1 H H1) (hv : In K N1 H1 v d) (q : (forD tgt body (d :: ds) env).All b (EndR K k ω N0 N E H D'))
    (hW : ∀ N2 H2 σ2 c env2, RepE K ω N2 E H2 c env2 σ2 → (∀ x, N0 x → N2 x) → Pres K N1 N2 H1 H2 → (forD tgt body ds env2).All c (EndR K k ω N0 N E H D') → W σ2 H2) :
    tG K tgt v σ H1 fun σ2 H2 => tS K k body { D' with nx := W, ct := W, bk := D'.nx } σ2 H2 := by
  have q : (match tgt d env with
    | some env1 => (body env1).bind fun o => match o with
      | .nx env' => forD tgt body ds env'
      | .ct env' => forD tgt body ds env'
      | .bk env' => .ret (.nx env')
      | .rv x => .ret (.rv x)
    | none => .fail : Tr Out).All b (EndR K k ω N0 N E H D') := q
  cases e : tgt d env with
  | none => simp only [e] at q; exact q.elim
  | some env1 =>
    simp only [e] at q
    refine ⟨ω, N1, E, b, env, d, env1, r, hv, e, fun σ' r' => ⟨ω, N0, N1, E, b, env1, r', n0, e0, Tr.All_mono ((Tr.All_bind _ _ _ _).mp q) fun o c qa => ?_⟩⟩
    cases o with
    | nx env2 => exact fun N2 H2 σ2 r2 n2 p2 => hW N2 H2 σ2 c env2 r2 n2 p2 qa
    | ct env2 => exact fun N2 H2 σ2 r2 n2 p2 => hW N2 H2 σ2 c env2 r2 n2 p2 qa
    | bk env2 => exact fun N2 H2 σ2 r2 n2 p2 => qa N2 H2 σ2 r2 n2 (p.trans p2)
    | rv x => exact qa
theorem all_pres {K : PySem.W.Frag} {N N1 : Addr → Prop} {H H1 : Hp} (p : Pres K N N1 H H1) : ∀ {vs : List V} {ds : List D}, InAll K N H vs ds → InAll K N1 H1 vs ds
  | _, _, .nil => .nil
  | _, _, .cons h t => .cons (p _ _ h) (all_pres p t)
theorem rngD_len (lo : Int) (n : Nat) : (rngD lo n).length = n := by unfold rngD; rw [List.length_map, List.length_range]
theorem rngD_at (lo : Int) (n i : Nat) (h : i < n) : (rngD lo n)[i]? = some (.int (lo + (i : Nat))) := by
  unfold rngD
  rw [List.getElem?_map, List.getElem?_range h]
  rfl
theorem walk_rng {K : PySem.W.Frag} {ω : Option Om} {N0 N : Addr → Prop} {E H : Hp} {D' : Ends} {tgt : FG} {body : FS} {env : Ev} {σ : L2.St} {b : Nat} {lo : Int} {n : Nat}
    (r : RepE K ω N E H b env σ) (n0 : ∀ x, N0 x → N x) (e0 : ∀ x, N0 x → E x ≠ none) {H0 : Hp} {NN : Addr → Prop} (p : Pres K NN N H0 H) (q : (forD tgt body (rngD lo n) env).All b (EndR K k ω N0 NN E H0 D')) :
    ∃ W : Nat → Nat → L2.St → Hp → Prop, (∃ m, W 0 m σ H) ∧ ∀ i m σ H, W i m σ H →
      ((Itr lo n).stop i H ∧ D'.nx σ H) ∨ ((Itr lo n).go i H ∧ ∃ N : L2.St → Hp → Prop, (∀ σ' H', N σ' H' → ∃ m', m' < m ∧ W (i + 1) m' σ' H') ∧ ∀ x H', (Itr lo n).yld i H x H' → tG K tgt x σ H' fun σ2 H2 => tS K k body { D' with nx := N, ct := N, bk := D'.nx } σ2 H2) := by
  refine ⟨fun i m σ2 H2 => ∃ N2 c2 env2, RepE K ω N2 E H2 c2 env2 σ2 ∧ (∀ x, N0 x → N2 x) ∧ Pres K NN N2 H0 H2 ∧ i + m = n ∧ (forD tgt body ((rngD lo n).drop i) env2).All c2 (EndR K k ω N0 NN E H0 D'),
    ⟨n, N, b, env, r, n0, p, Nat.zero_add _, q⟩, fun i m σ2 H2 ⟨N2, c2, env2, r2, n2, p2, em, q2⟩ => ?_⟩
  by_cases hi : i < n
  · have hi' : i < (rngD lo n).length := by rw [rngD_len]; exact hi
    rw [List.drop_eq_getElem_cons hi'] at q2
    have e0' : (rngD lo n)[i] = .int (lo + (i : Nat)) := Option.some.inj ((List.getElem?_eq_getElem hi').symm.trans (rngD_at lo n i hi))
    rw [e0'] at q2
    refine .inr ⟨hi, fun σ3 H3 => ∃ N3 c3 env3, RepE K ω N3 E H3 c3 env3 σ3 ∧ (∀ x, N0 x → N3 x) ∧ Pres K NN N3 H0 H3 ∧ (forD tgt body ((rngD lo n).drop (i + 1)) env3).All c3 (EndR K k ω N0 NN E H0 D'),
      fun σ3 H3 ⟨N3, c3, env3, r3, n3, p3, q3⟩ => ⟨m - 1, by omega, N3, c3, env3, r3, n3, p3, by omega, q3⟩, fun x H3 ⟨eH, hy⟩ => ?_⟩
    subst eH
    subst hy
    exact turn_for r2 n2 e0 p2 (.int _) q2 fun N3 H4 σ3 c3 env3 r3 n3 p3 q3 => ⟨N3, c3, env3, r3, n3, p2.trans p3, q3⟩
  · refine .inl ⟨by show n ≤ i; omega, ?_⟩
    rw [List.drop_eq_nil_of_le (by rw [rngD_len]; omega)] at q2
    exact q2 N2 H2 σ2 r2 n2 p2
theorem xs_forR1 {r : FL} {tgt : FG} {body : FS} (h : PS X st (tFor (iRng1 (tLB X.K r)) (tG X.K tgt) (tS X.K k body))) (h1 : ∀ env b P, (r env).All b P → (r env).All b fun ds c => ds.length = 1 ∧ P ds c) : XS X k st (sForR r tgt body) :=
  weakS h fun D' σ H ⟨ω, N0, N, E, b, env, r, n0, e0, q⟩ => by
  refine ⟨ω, N, E, b, env, r, Tr.All_mono (h1 _ _ _ ((Tr.All_bind _ _ _ _).mp q)) fun ds c ⟨hl, qa⟩ vs H1 k1 o1 i1 => ?_⟩
  match ds, hl, qa, i1 with
  | [d], _, qa, i1 =>
    obtain ⟨v, rfl, iv⟩ := InBs.one i1
    cases d with
    | int j =>
      cases iv.int
      simp only [rngOf] at qa
      by_cases hz : ok62 j = true
      · rw [if_pos hz] at qa
        have hz' := of_decide_eq_true hz
        exact ⟨j, rfl, hz'.1, hz'.2, walk_rng (r.move k1 o1) n0 e0 (Pres.keep r.om k1) qa⟩
      · rw [if_neg hz] at qa
        exact qa.elim
    | _ => exact qa.elim
theorem xs_forR2 {r : FL} {tgt : FG} {body : FS} (h : PS X st (tFor (iRng2 (tLB X.K r)) (tG X.K tgt) (tS X.K k body))) (h1 : ∀ env b P, (r env).All b P → (r env).All b fun ds c => ds.length = 2 ∧ P ds c) : XS X k st (sForR r tgt body) :=
  weakS h fun D' σ H ⟨ω, N0, N, E, b, env, r, n0, e0, q⟩ => by
  refine ⟨ω, N, E, b, env, r, Tr.All_mono (h1 _ _ _ ((Tr.All_bind _ _ _ _).mp q)) fun ds c ⟨hl, qa⟩ vs H1 k1 o1 i1 => ?_⟩
  match ds, hl, qa, i1 with
  | [d, d2], _, qa, i1 =>
    obtain ⟨v, u, rfl, iv, iu⟩ := InBs.two i1
    cases d with
    | int i =>
      cases d2 with
      | int j =>
        cases iv.int
        cases iu.int
        simp only [rngOf] at qa
        by_cases hz : ok62 i = true ∧ ok62 j = true
        · rw [if_pos hz] at qa
          have hz1 := of_decide_eq_true hz.1
          have hz2 := of_decide_eq_true hz.2
          exact ⟨i, j, rfl, ⟨hz1.1, hz1.2, hz2.1, hz2.2⟩, walk_rng (r.move k1 o1) n0 e0 (Pres.keep r.om k1) qa⟩
        · rw [if_neg hz] at qa
          exact qa.elim
      | _ => exact qa.elim
    | _ => exact qa.elim
end
theorem lenN_nil : ∀ env b (P : List D → Nat → Prop), (lNil env).All b P → (lNil env).All b fun ds c => ds.length = 0 ∧ P ds c := fun _ _ _ h => ⟨rfl, h⟩
theorem lenN_cons {f : FE} {r : FL} {n : Nat} (h : ∀ env b (P : List D → Nat → Prop), (r env).All b P → (r env).All b fun ds c => ds.length = n ∧ P ds c) : ∀ env b (P : List D → Nat → Prop), (lCons f r env).All b P → (lCons f r env).All b fun ds c => ds.length = n + 1 ∧ P ds c := fun env b P q => by
  refine (Tr.All_bind _ _ _ _).mpr (Tr.All_mono ((Tr.All_bind _ _ _ _).mp q) fun d c qa => ?_)
  exact (Tr.All_bind _ _ _ _).mpr (Tr.All_mono (h _ _ _ ((Tr.All_bind _ _ _ _).mp qa)) fun ss c2 ⟨e, qb⟩ => ⟨congrArg (· + 1) e, qb⟩)
end DL
end
section
set_option linter.all false
set_option maxRecDepth 100000
namespace DL
open PySem PySem.Spec PyProof.Rows L2
section
variable {X : Cx} {k : Kd} {st : Stmt} {pos : Pos}
end
def wipeE (env : Ev) : List Nat → Ev
  | [] => env
  | v :: vs => (wipeE env vs).set v none
def compD (tgt : FG) (t : FT) (f : FE) (env : Ev) : List D → Tr (List D)
  | [] => .ret []
  | d :: ds => match tgt d env with
    | some env1 => (t env1).bind fun b => if b = true then (f env1).bind fun y => (compD tgt t f env ds).bind fun ys => .ret (y :: ys) else compD tgt t f env ds
    | none => .fail
def endComp (tgt : FG) (t : FT) (f : FE) (env : Ev) (ds : List D) : Tr D := if ds.length ≤ sizeLine then (compD tgt t f env ds).bind fun ys => .ret (.list ys) else .fail
section
variable {K : PySem.W.Frag} {ω : Option Om} {N : Addr → Prop} {E H H' : Hp} {b c : Nat} {env : Ev} {σ : L2.St}
theorem RepE.more {p : Addr} (r : RepE K ω N E H b env σ) (hk : Keep ω H H') (ho : OrcO ω c H') (hp : H p = none) (ep : H' p ≠ none) : RepE K ω (addN N p) E H' c env σ := by
  have np : ¬ N p := fun z => r.dom p z hp
  have kk : ∀ x o, H x = some o → ¬ N x → H' x = some o := fun x o e n => hk x o e fun z => n (r.om x z)
  exact {
    len := r.len
    slot := fun j s e => by
      obtain ⟨v, e1, q⟩ := r.slot j s e
      refine ⟨v, e1, ?_⟩
      cases s with
      | val d => exact In.mono (fun x z => z.elim .inl fun e => .inr (by rw [e]; exact hp)) kk q
      | own d =>
        obtain ⟨a, e2, n, no, z, q⟩ := q
        obtain ⟨oa, ea⟩ := q.there
        exact ⟨a, e2, .inl n, no, z, q.mono (fun x z => z.elim .inl fun e => .inr (by rw [e]; exact hp)) kk ((hk a oa ea no).trans ea.symm)⟩
      | orc => exact q
    sep := r.sep
    dom := fun x hx => by
      rcases hx with hx | rfl
      · exact (r.move hk ho).dom x hx
      · exact ep
    om := fun x z => .inl (r.om x z)
    orc := ho
    keep := r.keep.trans hk
    tb := r.tb }
theorem wipeE_some {i : Nat} {s : Slot} : ∀ {vs : List Nat}, (wipeE env vs)[i]? = some (some s) → env[i]? = some (some s) ∧ i ∉ vs
  | [], h => ⟨h, by simp⟩
  | v :: vs, h => by
    unfold wipeE at h
    by_cases hi : v = i
    · subst hi
      by_cases hv : v < (wipeE env vs).length
      · rw [List.getElem?_set_self hv] at h; cases h
      · rw [List.getElem?_eq_none (by simpa using hv)] at h; cases h
    · rw [List.getElem?_set_ne hi] at h
      obtain ⟨h1, h2⟩ := wipeE_some h
      exact ⟨h1, by simp only [List.mem_cons, not_or]; exact ⟨fun e => hi e.symm, h2⟩⟩
theorem wipeE_length : ∀ vs : List Nat, (wipeE env vs).length = env.length
  | [] => rfl
  | v :: vs => by unfold wipeE; rw [List.length_set, wipeE_length vs]
theorem wipe_at {i : Nat} : ∀ {vs : List Nat}, i ∉ vs → (wipe σ vs)[i]? = σ[i]?
  | [], _ => rfl
  | v :: vs, h => by
    unfold wipe
    rw [List.getElem?_set_ne (fun e => h (by rw [e]; exact List.mem_cons_self)), wipe_at (fun z => h (List.mem_cons_of_mem _ z))]
theorem RepE.wipe (r : RepE K ω N E H b env σ) (vs : List Nat) : RepE K ω N E H b (wipeE env vs) (wipe σ vs) := by
  refine ⟨by rw [wipe_length, wipeE_length]; exact r.len, fun i s e => ?_, fun i j di dj a hij e1 e2 e3 e4 => ?_, r.dom, r.om, r.orc, r.keep, r.tb⟩
  · obtain ⟨e1, hi⟩ := wipeE_some e
    obtain ⟨v, e2, q⟩ := r.slot i s e1
    exact ⟨v, by rw [wipe_at hi]; exact e2, q⟩
  · obtain ⟨e1, hi⟩ := wipeE_some e1
    obtain ⟨e2, hj⟩ := wipeE_some e2
    rw [wipe_at hi] at e3
    rw [wipe_at hj] at e4
    exact r.sep i j di dj a hij e1 e2 e3 e4
theorem wipe_eq {τ : L2.St} : ∀ {vs : List Nat}, τ.length = σ.length → (∀ i, i ∉ vs → τ[i]? = σ[i]?) → wipe τ vs = wipe σ vs := fun {vs} hl h => by
  apply List.ext_getElem?
  intro i
  by_cases hi : i ∈ vs
  · have f : ∀ (ρ : L2.St) (vs : List Nat), i ∈ vs → (wipe ρ vs)[i]? = if i < ρ.length then some none else none := by
      intro ρ vs
      induction vs with
      | nil => intro h; cases h
      | cons v vs ih =>
        intro hm
        unfold wipe
        by_cases hv : v = i
        · subst hv
          rw [List.getElem?_set_self', ← wipe_length ρ vs]
          by_cases hlt : v < (wipe ρ vs).length
          · rw [List.getElem?_eq_getElem hlt, if_pos hlt]
            rfl
          · rw [List.getElem?_eq_none (by simpa using hlt), if_neg hlt]
            rfl
        · rw [List.getElem?_set_ne hv]
          exact ih (by rcases List.mem_cons.mp hm with e | e; exact absurd e.symm hv; exact e)
    rw [f τ vs hi, f σ vs hi, hl]
  · rw [wipe_at hi, wipe_at hi]
    exact h i hi
/-- a target of names within vs: what it leaves of the frame -/
def OwnTg (K : PySem.W.Frag) (g : TG) (tgt : FG) (vs : List Nat) : Prop := ∀ (ω : Option Om) (N : Addr → Prop) (E H : Hp) (b : Nat) (env env' : Ev) (σ : L2.St) (v : V) (d : D) (Q : L2.St → Hp → Prop),
  RepE K ω N E H b env σ → In K N H v d → tgt d env = some env' → (∀ σ', RepE K ω N E H b env' σ' → σ'.length = σ.length → (∀ i, i ∉ vs → σ'[i]? = σ[i]?) → Q σ' H) → g v σ H Q
theorem own_name (i : Nat) : OwnTg K (gName i) (gN i) [i] := fun ω N E H b env env' σ v d Q r h e k => by
  cases e
  exact k _ (r.setV h) (List.length_set ..) fun j hj => List.getElem?_set_ne fun e => hj (by rw [e]; exact List.mem_cons_self)
theorem two_inv {i j : Nat} {x y : D} {env env' : Ev} (e : gT 2 (gsCons (gN i) (gsCons (gN j) gsNil)) (.tuple [x, y]) env = some env') : env' = (env.set i (some (.val x))).set j (some (.val y)) := by
  have e2 : some ((env.set i (some (.val x))).set j (some (.val y))) = some env' := e
  exact (Option.some.inj e2).symm
theorem two_len {i j : Nat} {ds : List D} {env env' : Ev} (e : gT 2 (gsCons (gN i) (gsCons (gN j) gsNil)) (.tuple ds) env = some env') : ds.length = 2 := by
  by_cases h : ds.length = 2
  · exact h
  · have e2 : (if ds.length = 2 then gsCons (gN i) (gsCons (gN j) gsNil) ds env else none) = some env' := e
    rw [if_neg h] at e2
    cases e2
theorem own_two (i j : Nat) : OwnTg K (gTup K 2 (gCons (gName i) (gCons (gName j) gNil))) (gT 2 (gsCons (gN i) (gsCons (gN j) gsNil))) [i, j] := fun ω N E H b env env' σ v d Q r h e k => by
  cases d with
  | tuple ds =>
    obtain ⟨a, xs, rfl, ha, h1⟩ := h.tuple_inv
    have hl := two_len e
    match ds, hl with
    | [x, y], _ =>
      have e' := two_inv e
      subst e'
      cases h1 with
      | @cons u vs _ _ hu t =>
        cases t with
        | @cons w ws _ _ hw t =>
          cases t
          refine ⟨a, [u, w], rfl, ha, rfl, u, [w], rfl, w, [], rfl, rfl, k _ ((r.setV hu).setV hw) (by rw [List.length_set, List.length_set]) fun m hm => ?_⟩
          rw [List.getElem?_set_ne (fun e => hm (by rw [← e]; exact List.mem_cons_of_mem _ List.mem_cons_self)), List.getElem?_set_ne (fun e => hm (by rw [← e]; exact List.mem_cons_self))]
  | _ => cases e
end
/-- the core: J walks over ds -/
theorem comp_core2 {K : PySem.W.Frag} {ω : Option Om} {N : Addr → Prop} {E H H1 : Hp} {b : Nat} {env : Ev} {σ : L2.St} {J : It} {ds : List D} {g : TG} {tgt : FG} {tt : TT} {ft : FT} {fe : FE} {vs : List Nat} {Q : VK}
    (r : RepE K ω N E H1 b env σ) (hk : Keep ω H H1) (hgo : ∀ i H2 N', Keep ω H1 H2 → Pres K N N' H1 H2 → (∀ x, N' x → H2 x ≠ none) → i < ds.length → J.go i H2 ∧ ∀ x H', J.yld i H2 x H' → Same H2 H' ∧ ∃ d, ds[i]? = some d ∧ In K N' H' x d) (hst : ∀ H2, Keep ω H1 H2 → J.stop ds.length H2)
    (hg : OwnTg K g tgt vs) (htt : ∀ σ H Q, tY K ft σ H Q → tt σ H Q)
    (q : (endComp tgt ft fe (wipeE env vs) ds).All b fun d c => ∀ v H', Keep ω H H' → OrcO ω c H' → RK K ω N H H' .o v d → Q v H') :
    ∀ D, H1 D = none → ∃ W : Nat → Nat → Hp → Prop, (∃ m, W 0 m (upd H1 D (.lst []))) ∧ ∀ i m H, W i m H →
      (J.stop i H ∧ Q (.ref D) H) ∨ (J.go i H ∧ ∃ Nx : Hp → Prop, (∀ H', Nx H' → ∃ m', m' < m ∧ W (i + 1) m' H') ∧ ∀ x H', J.yld i H x H' → g x (wipe σ vs) H' fun σ2 H2 => wipe σ2 vs = wipe σ vs ∧ tt σ2 H2 fun b H3 =>
        if b = true then tX K .v fe σ2 H3 fun y H4 => ∃ acc, H4 D = some (.lst acc) ∧ acc.length < sizeLine ∧ Nx (upd H4 D (.lst (acc ++ [y]))) else Nx H3) := by
  intro D0 hD
  have nD : ¬ N D0 := fun z => r.dom _ z hD
  have noD : ¬ OmAt ω D0 := fun z => nD (r.om _ z)
  have om' : ∀ x, OmAt ω x → addN N D0 x := fun x z => .inl (r.om x z)
  unfold endComp at q
  by_cases hz : ds.length ≤ sizeLine
  · rw [if_pos hz] at q
    have q := (Tr.All_bind _ _ _ _).mp q
    have s0 : Same H1 (upd H1 D0 (.lst [])) := same_new hD
    have p0 : Pres K N (addN N D0) H1 (upd H1 D0 (.lst [])) := fun v d h => h.mono (fun x z => z.elim .inl fun e => .inr (by rw [e]; exact hD)) fun x o e _ => s0 x o e
    -- what stands between two turns
    let Inv2 : Nat → Hp → Prop := fun i H2 => ∃ c acc ys, Keep ω H1 H2 ∧ Pres K N (addN N D0) H1 H2 ∧ RepE K ω (addN N D0) E H2 c (wipeE env vs) (wipe σ vs) ∧ H2 D0 = some (.lst acc) ∧ InAll K (addN N D0) H2 acc ys ∧ acc.length ≤ i ∧
        (compD tgt ft fe (wipeE env vs) (ds.drop i)).All c fun zs c2 => ∀ v H', Keep ω H H' → OrcO ω c2 H' → RK K ω N H H' .o v (.list (ys ++ zs)) → Q v H'
    have next : ∀ i H4 c4 acc ys y dy, i < ds.length → Keep ω H1 H4 → Pres K N (addN N D0) H1 H4 → RepE K ω (addN N D0) E H4 c4 (wipeE env vs) (wipe σ vs) → H4 D0 = some (.lst acc) → InAll K (addN N D0) H4 acc ys → acc.length ≤ i → In K (addN N D0) H4 y dy →
        ((compD tgt ft fe (wipeE env vs) (ds.drop (i + 1))).All c4 fun zs c2 => ∀ v H', Keep ω H H' → OrcO ω c2 H' → RK K ω N H H' .o v (.list (ys ++ dy :: zs)) → Q v H') → Inv2 (i + 1) (upd H4 D0 (.lst (acc ++ [y]))) := by
      intro i H4 c4 acc ys y dy hi k4 p4 r4 e4 i4 l4 iy q4
      have pw : Pres K (addN N D0) (addN N D0) H4 (upd H4 D0 (.lst (acc ++ [y]))) := pres_write (.inr rfl)
      refine ⟨c4, acc ++ [y], ys ++ [dy], fun x o e n => ?_, p4.trans pw, ?_, upd_same, ?_, by rw [List.length_append]; exact Nat.succ_le_succ l4, Tr.All_mono q4 fun zs c2 hq => by rw [List.append_assoc]; exact hq⟩
      · rw [upd_ne (fun z => by rw [z, hD] at e; cases e)]
        exact k4 x o e n
      · refine ⟨r4.len, fun j s e => ?_, r4.sep, fun x hx => ?_, r4.om, orc_upd r4.orc noD (fun c q => by rw [e4]; exact code_lst), fun x o e n => ?_, r4.tb⟩
        · obtain ⟨v, e1, h⟩ := r4.slot j s e
          refine ⟨v, e1, ?_⟩
          cases s with
          | val d => exact pw _ _ h
          | own d =>
            obtain ⟨a, e2, na, no, ea, h⟩ := h
            have aD : a ≠ D0 := by
              rintro rfl
              obtain ⟨v0, e0, a0, e00, n0, no0, ea0, h0⟩ := r.slot j _ (wipeE_some e).1
              have e1' : σ[j]? = some (some v) := by rw [← wipe_at (wipeE_some e).2]; exact e1
              rw [e0] at e1'
              cases e1'
              rw [e00] at e2
              cases e2
              obtain ⟨o0, z0⟩ := h0.there
              rw [hD] at z0
              cases z0
            exact ⟨a, e2, na, no, ea, h.mono (fun _ z => .inl z) (fun x o e n => by rw [upd_ne (fun z => n (.inr z))]; exact e) (upd_ne aD)⟩
          | orc => exact h
        · by_cases z : x = D0
          · rw [z, upd_same]; exact fun q => nomatch q
          · rw [upd_ne z]; exact r4.dom x hx
        · have z : x ≠ D0 := fun z => by
            have := hk.none r.orc hD
            rw [z] at e
            have h1 : H1 D0 = some o := r.keep D0 o e noD
            rw [hD] at h1
            cases h1
          rw [upd_ne z]
          exact r4.keep x o e n
      · exact all_pres pw (i4.append (.cons iy .nil))
    refine ⟨fun i m H2 => Inv2 i H2 ∧ i + m = ds.length, ⟨ds.length, ⟨b, [], [], Keep.of s0, p0, (r.more (Keep.of s0) (r.orc.same s0) hD (by rw [upd_same]; exact fun z => nomatch z)).wipe vs, upd_same, .nil, Nat.zero_le _, q⟩, Nat.zero_add _⟩, fun i m H2 ⟨⟨c, acc, ys, kH, pH, r2, e2, i2, hl, q2⟩, em⟩ => ?_⟩
    by_cases hi : i < ds.length
    · obtain ⟨g1, g2⟩ := hgo i H2 _ kH pH r2.dom hi
      rw [List.drop_eq_getElem_cons hi] at q2
      refine .inr ⟨g1, Inv2 (i + 1), fun H3 z => ⟨m - 1, by omega, z, by omega⟩, fun x H3 hy => ?_⟩
      obtain ⟨sm, d, ed, hd⟩ := g2 x H3 hy
      have kS : Keep ω H2 H3 := Keep.of sm
      have r2 := r2.move kS (r2.orc.same sm)
      have e2 := sm _ _ e2
      have i2 := i2.keep om' kS
      have kH := kH.trans kS
      have pH := pH.trans (Pres.keep om' kS)
      rw [List.getElem?_eq_getElem hi] at ed
      cases ed
      have q2 : (match tgt ds[i] (wipeE env vs) with
        | some env1 => (ft env1).bind fun b => if b = true then (fe env1).bind fun y => (compD tgt ft fe (wipeE env vs) (ds.drop (i + 1))).bind fun ys => .ret (y :: ys) else compD tgt ft fe (wipeE env vs) (ds.drop (i + 1))
        | none => .fail : Tr (List D)).All c fun zs c2 => ∀ v H', Keep ω H H' → OrcO ω c2 H' → RK K ω N H H' .o v (.list (ys ++ zs)) → Q v H' := q2
      cases et : tgt ds[i] (wipeE env vs) with
      | none => simp only [et] at q2; exact q2.elim
      | some env1 =>
        simp only [et] at q2
        refine hg ω _ E H3 c _ env1 _ x _ _ r2 hd et fun σ2 rσ hlen hag => ⟨wipe_eq (hlen.trans (wipe_length σ vs)) (fun i hi => (hag i hi).trans (wipe_at hi)), htt _ _ _ ⟨ω, addN N D0, E, c, env1, rσ, Tr.All_mono ((Tr.All_bind _ _ _ _).mp q2) fun t c3 qa H4 k4 o4 => ?_⟩⟩
        cases t with
        | true =>
          refine ⟨ω, addN N D0, E, c3, env1, rσ.move k4 o4, Tr.All_mono ((Tr.All_bind _ _ _ _).mp qa) fun y c4 qb v H5 k5 o5 i5 => ?_⟩
          have k45 := k4.trans k5
          refine ⟨acc, k45 _ _ e2 noD, Nat.lt_of_le_of_lt hl (Nat.lt_of_lt_of_le hi hz), next i H5 c4 acc ys v y hi (kH.trans k45) (pH.trans (Pres.keep om' k45)) (r2.move k45 o5) (k45 _ _ e2 noD) (i2.keep om' k45) hl i5 ?_⟩
          exact Tr.All_mono ((Tr.All_bind _ _ _ _).mp qb) fun zs c5 hq => hq
        | false =>
          exact ⟨c3, acc, ys, kH.trans k4, pH.trans (Pres.keep om' k4), r2.move k4 o4, k4 _ _ e2 noD, i2.keep om' k4, Nat.le_succ_of_le hl, qa⟩
    · have ei : i = ds.length := by omega
      subst ei
      rw [List.drop_length] at q2
      refine .inl ⟨hst H2 kH, ?_⟩
      have q3 := q2 (.ref D0) H2 (hk.trans kH) r2.orc
      rw [List.append_nil] at q3
      exact q3 ⟨D0, rfl, hk.none r.orc hD, acc, e2, i2⟩
  · rw [if_neg hz] at q
    exact q.elim
theorem comp_core {K : PySem.W.Frag} {ω : Option Om} {N : Addr → Prop} {E H H1 : Hp} {b : Nat} {env : Ev} {σ : L2.St} {J : It} {ds : List D} {g : TG} {tgt : FG} {tt : TT} {ft : FT} {fe : FE} {vs : List Nat} {Q : VK}
    (r : RepE K ω N E H1 b env σ) (hk : Keep ω H H1) (hgo : ∀ i H2 N', Keep ω H1 H2 → Pres K N N' H1 H2 → i < ds.length → J.go i H2 ∧ ∀ x H', J.yld i H2 x H' → H' = H2 ∧ ∃ d, ds[i]? = some d ∧ In K N' H2 x d) (hst : ∀ H2, Keep ω H1 H2 → J.stop ds.length H2)
    (hg : OwnTg K g tgt vs) (htt : ∀ σ H Q, tY K ft σ H Q → tt σ H Q)
    (q : (endComp tgt ft fe (wipeE env vs) ds).All b fun d c => ∀ v H', Keep ω H H' → OrcO ω c H' → RK K ω N H H' .o v d → Q v H') :
    ∀ D, H1 D = none → ∃ W : Nat → Nat → Hp → Prop, (∃ m, W 0 m (upd H1 D (.lst []))) ∧ ∀ i m H, W i m H →
      (J.stop i H ∧ Q (.ref D) H) ∨ (J.go i H ∧ ∃ Nx : Hp → Prop, (∀ H', Nx H' → ∃ m', m' < m ∧ W (i + 1) m' H') ∧ ∀ x H', J.yld i H x H' → g x (wipe σ vs) H' fun σ2 H2 => wipe σ2 vs = wipe σ vs ∧ tt σ2 H2 fun b H3 =>
        if b = true then tX K .v fe σ2 H3 fun y H4 => ∃ acc, H4 D = some (.lst acc) ∧ acc.length < sizeLine ∧ Nx (upd H4 D (.lst (acc ++ [y]))) else Nx H3) :=
  comp_core2 r hk (fun i H2 N' k p _ hi => (hgo i H2 N' k p hi).imp id fun f x H' hy => by
    obtain ⟨e, d, a, b⟩ := f x H' hy
    subst e
    exact ⟨Same.refl _, d, a, b⟩) hst hg htt q
section
variable {X : Cx} {e : Expr}
def eCompR (r : FL) (tgt : FG) (t : FT) (fe : FE) (vs : List Nat) : FE := fun env => (r env).bind fun ds => match rngOf ds with
  | some (lo, n) => endComp tgt t fe (wipeE env vs) (rngD lo n)
  | none => .fail
theorem InB.list2 {K : PySem.W.Frag} {ω : Option Om} {N : Addr → Prop} {H : Hp} {v : V} {ds : List D} (h : InB K ω N H v (.list ds)) (om : ∀ x, OmAt ω x → N x) : ∃ a xs, v = .ref a ∧ H a = some (.lst xs) ∧ InAll K N H xs ds ∧ ¬ OmAt ω a := by
  rcases h with h | ⟨a, rfl, n, xs, e, h⟩
  · cases h with
    | lst n r h => exact ⟨_, _, rfl, r, h, fun z => n (om _ z)⟩
  · exact ⟨a, xs, rfl, e, h, n⟩
theorem seqT_keep {K : PySem.W.Frag} {ω : Option Om} {N : Addr → Prop} {H H2 : Hp} {v : V} {ds : List D} (h : In K N H v (.tuple ds)) (om : ∀ x, OmAt ω x → N x) : ∃ a xs, v = .ref a ∧ InAll K N H xs ds ∧ ∀ H2, Keep ω H H2 → SqT K H2 a xs := by
  cases h with
  | tup n r h =>
    obtain ⟨o, r, z⟩ := r
    exact ⟨_, _, rfl, h, fun H2 k => .inl (.inr ⟨o, k _ _ r fun z => n (om _ z)⟩)⟩
  | tupK r h => exact ⟨_, _, rfl, h, fun H2 k => r.seq⟩
theorem rd_compR1 {r : FL} {fe : FE} {g : TG} {tgt : FG} {tt : TT} {ft : FT} {vs : List Nat} (hg : OwnTg X.K g tgt vs) (htt : ∀ σ H Q, tY X.K ft σ H Q → tt σ H Q) (h1 : ∀ env b (P : List D → Nat → Prop), (r env).All b P → (r env).All b fun ds c => ds.length = 1 ∧ P ds c)
    : ∀ σ H Q, tX X.K .o (eCompR r tgt ft fe vs) σ H Q → ((tLc (iRng1 (tLB X.K r)) g tt (tX X.K .v fe) vs)) σ H Q :=
  fun σ H Q ⟨ω, N, E, b, env, r, q⟩ => by
  refine ⟨ω, N, E, b, env, r, Tr.All_mono (h1 _ _ _ ((Tr.All_bind _ _ _ _).mp q)) fun ds c ⟨hl, qa⟩ vs H1 k1 o1 i1 => ?_⟩
  match ds, hl, qa, i1 with
  | [d], _, qa, i1 =>
    obtain ⟨v, rfl, iv⟩ := InBs.one i1
    cases d with
    | int j =>
      cases iv.int
      simp only [rngOf] at qa
      by_cases hz : ok62 j = true
      · rw [if_pos hz] at qa
        have hz' := of_decide_eq_true hz
        refine ⟨j, rfl, hz'.1, hz'.2, comp_core (r.move k1 o1) k1 (fun i H2 N' k2 p2 hi => ?_) (fun H2 k2 => ?_) hg htt qa⟩
        · rw [rngD_len] at hi
          exact ⟨hi, fun x H' ⟨eH, hy⟩ => ⟨eH, _, rngD_at _ _ _ hi, by rw [hy]; exact .int _⟩⟩
        · rw [rngD_len]; exact Nat.le_refl _
      · rw [if_neg hz] at qa
        exact qa.elim
    | _ => exact qa.elim
theorem xe_compR1 {r : FL} {fe : FE} {g : TG} {tgt : FG} {tt : TT} {ft : FT} {vs : List Nat} (hg : OwnTg X.K g tgt vs) (htt : ∀ σ H Q, tY X.K ft σ H Q → tt σ H Q) (h1 : ∀ env b (P : List D → Nat → Prop), (r env).All b P → (r env).All b fun ds c => ds.length = 1 ∧ P ds c)
    (h : PE X e ((tLc (iRng1 (tLB X.K r)) g tt (tX X.K .v fe) vs))) : XE X .o e (eCompR r tgt ft fe vs) := weak h (rd_compR1 hg htt h1)
/-- no test -/
def fYes : FT := fun _ => .ret true
theorem yes_ok {K : PySem.W.Frag} : ∀ σ H Q, tY K fYes σ H Q → tYes σ H Q := fun σ H Q ⟨ω, N, E, b, env, r, q⟩ => q H Keep.refl r.orc
end
def startE (n : Nat) (ss : List Slot) : Ev := ss.map some ++ List.replicate (n - ss.length) none
def fnF (n : Nat) (k : Kd) (fb : FS) (ss : List Slot) : Tr D := (fb (startE n ss)).bind fun o => match o with
  | .rv d => .ret d
  | .nx _ => match k with
    | .v => .ret .none
    | _ => .fail
  | _ => .fail
theorem slots_at {F : Slot → V → Prop} : ∀ {ss : List Slot} {vs : List V} {i : Nat} {s : Slot}, Paired F ss vs → ss[i]? = some s → ∃ v, vs[i]? = some v ∧ F s v
  | _, _, _, _, .nil, e => by simp at e
  | _, _, 0, _, .cons h _, e => by simp at e; subst e; exact ⟨_, rfl, h⟩
  | _, _, i + 1, _, .cons _ t, e => by
    obtain ⟨v, e1, h1⟩ := slots_at (i := i) t (by simpa using e)
    exact ⟨v, by simpa using e1, h1⟩
theorem rep_start {K : PySem.W.Frag} {ω : Option Om} {N : Addr → Prop} {H : Hp} {b : Nat} {Ns : List Str} {ss : List Slot} {vs : List V} (om : ∀ x, OmAt ω x → N x) (dom : ∀ x, N x → H x ≠ none) (orc : OrcO ω b H) (tb : TB K ω) (h : Paired (SlotA K ω N H) ss vs) : RepE K ω N H H b (startE Ns.length ss) (start Ns vs) := by
  have hl : ss.length = vs.length := h.length
  have at0 : ∀ (i : Nat) (s : Slot), (startE Ns.length ss)[i]? = some (some s) → ss[i]? = some s := fun i s e => by
    unfold startE at e
    by_cases hi : i < ss.length
    · rw [List.getElem?_append_left (by rw [List.length_map]; exact hi), List.getElem?_map] at e
      cases q : ss[i]? with
      | none => rw [q] at e; cases e
      | some t => rw [q] at e; cases e; rfl
    · rw [List.getElem?_append_right (by rw [List.length_map]; omega), List.getElem?_replicate] at e
      split at e <;> cases e
  refine ⟨?_, fun i s e => ?_, fun i j di dj a hij e1 e2 e3 e4 => ?_, dom, om, orc, Keep.refl, tb⟩
  · unfold startE L2.start
    rw [List.length_append, List.length_append, List.length_map, List.length_map, List.length_replicate, List.length_replicate, hl]
  · have e1 := at0 i s e
    obtain ⟨v, e2, q⟩ := slots_at h e1
    refine ⟨v, ?_, ?_⟩
    · unfold L2.start
      have hi : i < vs.length := by
        obtain ⟨z, _⟩ := List.getElem?_eq_some_iff.mp e2
        exact z
      rw [List.getElem?_append_left (by rw [List.length_map]; exact hi), List.getElem?_map, e2]
      rfl
    · cases s with
      | val d => exact q
      | own d => exact q.elim
      | orc => exact q
  · obtain ⟨v, e5, q⟩ := slots_at h (at0 i _ e1)
    exact q.elim
end DL
end
section
set_option linter.all false
set_option maxRecDepth 100000
namespace DLenum
open PySem
open Sem (wp)
open AutoSeq1 (wpAny_loadPart')
theorem meets_enum_newT (t : Addr) (items : Array Value) (o : Obj) (n : Nat) (hCc : o.cls = .type "tuple") (hDd : o.data = .seq items n) :
    Meets (Builtin.«enumerate.__new__» ⟨[.type "enumerate", .ref t], []⟩) (fun _ R s => s.heap.get? t = some o ∧
      R (.ok (.ret (.ref (s.heap.push { cls := .type "tuple_iterator", data := .fields #[.ref t, .int 0 0] }).objs.size)))
        { s with heap := (s.heap.push { cls := .type "tuple_iterator", data := .fields #[.ref t, .int 0 0] }).push { cls := .type "enumerate", data := .fields #[.none, .bool false, .ref s.heap.objs.size, rawInt 0, .none, .none] } }) :=
  .of_wp fun prog w A R s h => by
    obtain ⟨hPp, g, d, tk, os⟩ := s
    obtain ⟨hLl, h⟩ := h
    have hSub := sub_enumerate
    have hTt : Heap.IsTuple (Shared.heap ⟨hPp, g, d, tk, os⟩) t items := ⟨_, hLl, hCc, n, hDd⟩
    wp_walk using wpAny_loadPart' hLl
    refine wpAny_stack_any fun sTt => wpAny_pure ?_
    split
    · rename_i c _ _ _ _ _
      cases (c == Value.type "enumerate")
      · wp_walk using wpAny_loadPart' hLl, wpAny_pyIter_tuple hTt
        exact ⟨_, rfl, h⟩
      · wp_walk using wpAny_loadPart' hLl, wpAny_pyIter_tuple hTt
        exact ⟨_, rfl, h⟩
    · wp_walk using wpAny_loadPart' hLl, wpAny_pyIter_tuple hTt
      exact ⟨_, rfl, h⟩
section
variable {prog : Program} {w : World} {A : Around} {E : Value → Shared → Prop} {s : Shared}
theorem call_enum_tuple {t : Addr} {items : Array Value} {Q : Value → Shared → Prop} (hTt : s.heap.IsTuple t items)
    (h : ∀ h', IsEnum h' (s.heap.objs.size + 1) s.heap.objs.size 0 .none → h'.IsTupleIter s.heap.objs.size t 0 → h'.objs.size = s.heap.objs.size + 2 →
      (∀ b o, s.heap.get? b = some o → h'.get? b = some o) → Q (.ref (s.heap.objs.size + 1)) { s with heap := h' }) :
    wpAny (model prog w) A (call (.type "enumerate") [.ref t]) Q E s := by
  obtain ⟨o, hOo, hCc, n, hDd⟩ := hTt
  refine callType_new F.called_enumerate (by decide) (F.typeCall_enumerate_1 _) (F.newCall_enumerate_1 _) (fun obj => F.args_object_init_2 obj _) F.entry_enumerate_new
    (meets_enum_newT t items o n hCc hDd) ⟨hOo, ?_⟩
  have hZz : (s.heap.push { cls := .type "tuple_iterator", data := .fields #[.ref t, .int 0 0] }).objs.size = s.heap.objs.size + 1 := Heap.size_push ..
  show _ ∧ _
  rw [hZz]
  have he : IsEnum ((s.heap.push { cls := .type "tuple_iterator", data := .fields #[.ref t, .int 0 0] }).push
      { cls := .type "enumerate", data := .fields #[.none, .bool false, .ref s.heap.objs.size, rawInt 0, .none, .none] }) (s.heap.objs.size + 1) s.heap.objs.size 0 .none := by
    have q := Heap.get?_push_size (s.heap.push { cls := .type "tuple_iterator", data := .fields #[.ref t, .int 0 0] })
      (o := { cls := .type "enumerate", data := .fields #[.none, .bool false, .ref s.heap.objs.size, rawInt 0, .none, .none] }) rfl
    rw [hZz] at q; exact q
  refine ⟨⟨_, he, rfl⟩, h _ he ⟨_, Heap.get?_push_of_some _ (Heap.get?_push_size _ rfl), rfl, rfl⟩ (by rw [Heap.size_push, hZz]) fun b o x => Heap.get?_push_of_some _ (Heap.get?_push_of_some _ x)⟩
end
end DLenum
namespace DL
open PySem PySem.Spec PyProof.Rows L2
/-- the tuple at a, each item in a new pair with itz number -/
def IteT (K : PySem.W.Frag) (a : Addr) (n : Nat) : It :=
  ⟨fun i H => i < n ∧ ∃ (xs : List V) (x : V), SqT K H a xs ∧ xs.length = n ∧ xs[i]? = some x, fun i H v H' => ∃ T x o, v = .ref T ∧ H T = none ∧ H' = upd H T (.frz o (.tup [.int (i : Nat), x])) ∧ o.dict = none ∧ ∀ xs, SqT K H a xs → xs[i]? = some x, fun i H => i = n ∧ ∃ xs : List V, SqT K H a xs ∧ xs.length = n⟩
theorem turn_enumT {P : Program} {w : World} {K : PySem.W.Frag} {elts : List Expr} {kk : Nat} {tpos : Pos} (a e it : Addr) (n : Nat) (hea : e ≠ a) (hia : a ≠ it) (hei : e ≠ it) :
    Turn P w K (.Tuple elts kk tpos) (IteT K a n) [e, it] e (fun i h => (∃ old, IsEnum h e it ((i : Nat) : Int) old) ∧ h.IsTupleIter it a i ∧ True) where
  mem := by simp
  obj := fun i h sTt b hb => by
    obtain ⟨⟨old, he⟩, ⟨o, hOo, hCc, hDd⟩, _⟩ := sTt
    have eQ' : b = e ∨ b = it := by simpa using hb
    rcases eQ' with z | z
    · rw [z]; exact ⟨_, he, fun v q => nomatch q⟩
    · rw [z]; exact ⟨o, hOo, fun v q => by rw [hDd] at q; cases q⟩
  keep := fun i h h' sTt k => let ⟨⟨old, he⟩, ⟨o, hOo, hCc, hDd⟩, _⟩ := sTt; ⟨⟨old, k e (by simp) _ he⟩, ⟨o, k it (by simp) _ hOo, hCc, hDd⟩, trivial⟩
  item := by
    intro X hP hw hK hCc i pnz s σ H E I hFf sTt hGg
    subst hP hw hK
    obtain ⟨⟨old, he⟩, hIt, _⟩ := sTt
    obtain ⟨hIn, xs, x, hQq, hLen, hXx⟩ := hGg
    obtain ⟨itz, rVs, p, hZz⟩ := I.tuple hQq
    obtain ⟨u, hUu, ru⟩ := rVs.get hXx
    have hsz1 : itz.toArray.size = n := by rw [List.size_toArray, ← rVs.length]; exact hLen
    have hEl : e < s.heap.objs.size := Heap.lt_size he
    have hIl : it < s.heap.objs.size := by obtain ⟨_, q, _⟩ := hIt; exact Heap.lt_size q
    have DR := Draws.tuple (prog := X.prog) (w := X.w) (A := X.A.in1) (I.ok.hd hCc) it a hia itz.toArray
    refine wpAny_pyNext_enum_itemD (DR) he ⟨hIt, p⟩ (by rw [hsz1]; exact hIn) hei (by simp [hei, hea]) fun y h' tk hy hOo hSt hTt hSz hKk => ?_
    have ey : y = u := by
      have q : itz.toArray[i]? = some u := by simpa using hUu
      rw [hy] at q
      exact Option.some.inj q
    subst ey
    refine ⟨_, rfl, wpAny_letOwnedTupleGo_enum (s := { s with heap := h', toks := tk + 1 }) hOo fun h'' he' sb => ?_⟩
    have hT2 : h''.get? s.heap.objs.size = some { cls := .type "tuple", data := .seq #[.int i tk, y] } := (sb.2 _ (Nat.ne_of_gt hEl)).trans hTt
    have new : ObjOk X.prog X.w (upd H s.heap.objs.size (.frz { cls := .type "tuple", data := .seq #[.int i tk, y] } (.tup [.int (i : Nat), x]))) h'' s.heap.objs.size (.frz { cls := .type "tuple", data := .seq #[.int i tk, y] } (.tup [.int (i : Nat), x])) :=
      ⟨hT2, by show 2 ≤ sizeLine; decide, [.int i tk, y], .cons ⟨_, rfl⟩ (.cons ru .nil), ⟨_, hT2, rfl, _, rfl⟩⟩
    have IA : Inv X pnz σ (upd H s.heap.objs.size (.frz { cls := .type "tuple", data := .seq #[.int i tk, y] } (.tup [.int (i : Nat), x]))) { s with heap := h'', toks := tk + 1 } :=
      I.turnedNew (ch := [e, it]) (fun b ob hb q => (sb.2 b (fun z => hb (by simp [z]))).trans (hKk b ob (fun z => hb (by simp [z])) (fun z => hb (by simp [z])) q)) hFf (Nat.le_refl _) new
    refine ⟨.ref s.heap.objs.size, _, IA, rfl, ⟨_, x, _, rfl, I.hok.fresh (Nat.le_refl _), rfl, rfl, fun ys hy => by rw [I.tuple_inj hy hQq]; exact hXx⟩, ⟨⟨y, ?_⟩, ?_, trivial⟩, fun b hb => ?_⟩
    · have eQ1 : ((i + 1 : Nat) : Int) = (i : Int) + 1 := by omega
      rw [eQ1]; exact he'
    · obtain ⟨o, qA, q2, q3⟩ := hSt.1
      exact ⟨o, (sb.2 it (Ne.symm hei)).trans qA, q2, q3⟩
    · have hBb' : b < s.heap.objs.size := by
        have eQ' : b = e ∨ b = it := by simpa using hb
        rcases eQ' with z | z
        · rw [z]; exact hEl
        · rw [z]; exact hIl
      rw [upd_ne (Nat.ne_of_lt hBb')]
      exact (hFf b hb).1
  done := by
    intro X hP hw hK hCc i pnz s σ H E I hFf sTt hGg
    subst hP hw hK
    obtain ⟨⟨old, he⟩, hIt, _⟩ := sTt
    obtain ⟨ein, xs, hQq, hLen⟩ := hGg
    obtain ⟨itz, rVs, p, hZz⟩ := I.tuple hQq
    obtain ⟨f0, f1, f2, f3, f4, f5⟩ := hFf it (by simp)
    have hsz1 : itz.toArray.size = n := by rw [List.size_toArray, ← rVs.length]; exact hLen
    have DR := Draws.tuple (prog := X.prog) (w := X.w) (A := X.A.in1) (I.ok.hd hCc) it a hia itz.toArray
    refine wpAny_pyNext_enum_endD DR he ⟨by rw [hsz1, ← ein]; exact hIt, p⟩ fun h' eb => ⟨rfl, I.turned (t' := s.toks) (fun b o hb q => eb b o hb q) f0 f1 f3 f4 f5⟩
  self := fun A i s Q E sTt h => let ⟨⟨_, he⟩, _⟩ := sTt; wpAny_pyIter_enum he h
/-- the list at a, each item in a new pair with itz number -/
def IteL (K : PySem.W.Frag) (a : Addr) (n : Nat) : It :=
  ⟨fun i H => i < n ∧ ∃ (xs : List V) (x : V), SqL K H a xs ∧ xs.length = n ∧ xs[i]? = some x, fun i H v H' => ∃ T x o, v = .ref T ∧ H T = none ∧ H' = upd H T (.frz o (.tup [.int (i : Nat), x])) ∧ o.dict = none ∧ ∀ xs, SqL K H a xs → xs[i]? = some x, fun i H => i = n ∧ ∃ xs : List V, SqL K H a xs ∧ xs.length = n⟩
theorem turn_enumL {P : Program} {w : World} {K : PySem.W.Frag} {elts : List Expr} {kk : Nat} {tpos : Pos} (a e it : Addr) (n : Nat) (hea : e ≠ a) (hia : a ≠ it) (hei : e ≠ it) :
    Turn P w K (.Tuple elts kk tpos) (IteL K a n) [e, it] e (fun i h => (∃ old, IsEnum h e it ((i : Nat) : Int) old) ∧ h.IsListIter it a i ∧ True) where
  mem := by simp
  obj := fun i h sTt b hb => by
    obtain ⟨⟨old, he⟩, ⟨o, hOo, hCc, hDd⟩, _⟩ := sTt
    have eQ' : b = e ∨ b = it := by simpa using hb
    rcases eQ' with z | z
    · rw [z]; exact ⟨_, he, fun v q => nomatch q⟩
    · rw [z]; exact ⟨o, hOo, fun v q => by rw [hDd] at q; cases q⟩
  keep := fun i h h' sTt k => let ⟨⟨old, he⟩, ⟨o, hOo, hCc, hDd⟩, _⟩ := sTt; ⟨⟨old, k e (by simp) _ he⟩, ⟨o, k it (by simp) _ hOo, hCc, hDd⟩, trivial⟩
  item := by
    intro X hP hw hK hCc i pnz s σ H E I hFf sTt hGg
    subst hP hw hK
    obtain ⟨⟨old, he⟩, hIt, _⟩ := sTt
    obtain ⟨hIn, xs, x, hQq, hLen, hXx⟩ := hGg
    obtain ⟨itz, rVs, p, hZz⟩ := I.list hQq
    obtain ⟨u, hUu, ru⟩ := rVs.get hXx
    have hsz1 : itz.toArray.size = n := by rw [List.size_toArray, ← rVs.length]; exact hLen
    have hEl : e < s.heap.objs.size := Heap.lt_size he
    have hIl : it < s.heap.objs.size := by obtain ⟨_, q, _⟩ := hIt; exact Heap.lt_size q
    have DR := Draws.list (prog := X.prog) (w := X.w) (A := X.A.in1) (I.ok.hd hCc) it a hia itz.toArray
    refine wpAny_pyNext_enum_itemD (DR) he ⟨hIt, p.isList⟩ (by rw [hsz1]; exact hIn) hei (by simp [hei, hea]) fun y h' tk hy hOo hSt hTt hSz hKk => ?_
    have ey : y = u := by
      have q : itz.toArray[i]? = some u := by simpa using hUu
      rw [hy] at q
      exact Option.some.inj q
    subst ey
    refine ⟨_, rfl, wpAny_letOwnedTupleGo_enum (s := { s with heap := h', toks := tk + 1 }) hOo fun h'' he' sb => ?_⟩
    have hT2 : h''.get? s.heap.objs.size = some { cls := .type "tuple", data := .seq #[.int i tk, y] } := (sb.2 _ (Nat.ne_of_gt hEl)).trans hTt
    have new : ObjOk X.prog X.w (upd H s.heap.objs.size (.frz { cls := .type "tuple", data := .seq #[.int i tk, y] } (.tup [.int (i : Nat), x]))) h'' s.heap.objs.size (.frz { cls := .type "tuple", data := .seq #[.int i tk, y] } (.tup [.int (i : Nat), x])) :=
      ⟨hT2, by show 2 ≤ sizeLine; decide, [.int i tk, y], .cons ⟨_, rfl⟩ (.cons ru .nil), ⟨_, hT2, rfl, _, rfl⟩⟩
    have IA : Inv X pnz σ (upd H s.heap.objs.size (.frz { cls := .type "tuple", data := .seq #[.int i tk, y] } (.tup [.int (i : Nat), x]))) { s with heap := h'', toks := tk + 1 } :=
      I.turnedNew (ch := [e, it]) (fun b ob hb q => (sb.2 b (fun z => hb (by simp [z]))).trans (hKk b ob (fun z => hb (by simp [z])) (fun z => hb (by simp [z])) q)) hFf (Nat.le_refl _) new
    refine ⟨.ref s.heap.objs.size, _, IA, rfl, ⟨_, x, _, rfl, I.hok.fresh (Nat.le_refl _), rfl, rfl, fun ys hy => by rw [I.list_inj hy hQq]; exact hXx⟩, ⟨⟨y, ?_⟩, ?_, trivial⟩, fun b hb => ?_⟩
    · have eQ1 : ((i + 1 : Nat) : Int) = (i : Int) + 1 := by omega
      rw [eQ1]; exact he'
    · obtain ⟨o, qA, q2, q3⟩ := hSt.1
      exact ⟨o, (sb.2 it (Ne.symm hei)).trans qA, q2, q3⟩
    · have hBb' : b < s.heap.objs.size := by
        have eQ' : b = e ∨ b = it := by simpa using hb
        rcases eQ' with z | z
        · rw [z]; exact hEl
        · rw [z]; exact hIl
      rw [upd_ne (Nat.ne_of_lt hBb')]
      exact (hFf b hb).1
  done := by
    intro X hP hw hK hCc i pnz s σ H E I hFf sTt hGg
    subst hP hw hK
    obtain ⟨⟨old, he⟩, hIt, _⟩ := sTt
    obtain ⟨ein, xs, hQq, hLen⟩ := hGg
    obtain ⟨itz, rVs, p, hZz⟩ := I.list hQq
    obtain ⟨f0, f1, f2, f3, f4, f5⟩ := hFf it (by simp)
    have hsz1 : itz.toArray.size = n := by rw [List.size_toArray, ← rVs.length]; exact hLen
    have DR := Draws.list (prog := X.prog) (w := X.w) (A := X.A.in1) (I.ok.hd hCc) it a hia itz.toArray
    refine wpAny_pyNext_enum_endD DR he ⟨by rw [hsz1, ← ein]; exact hIt, p.isList⟩ fun h' eb => ⟨rfl, I.turned (t' := s.toks) (fun b o hb q => eb b o hb q) f0 f1 f3 f4 f5⟩
  self := fun A i s Q E sTt h => let ⟨⟨_, he⟩, _⟩ := sTt; wpAny_pyIter_enum he h
def iEnumT (K : PySem.W.Frag) (ta : TA) : TI := fun σ H R => ta σ H fun vs HA => ∃ a, vs = [.ref a] ∧ ((∃ xs, SqL K HA a xs ∧ R (IteL K a xs.length) HA) ∨ ∃ xs, SqT K HA a xs ∧ R (IteT K a xs.length) HA)
theorem pi_enumT {X : Cx} {e : Expr} {ta : TA} {p pos tpos : Pos} {elts : List Expr} {kk : Nat} (hGg : Gl X "enumerate") (hMm : X.mg "enumerate" = none) (ha : PA X [e] ta) (hs : starEach [e] X.env = [(false, eval e X.env)] := by rfl) :
    PI X (.Tuple elts kk tpos) (.Call (.Name "enumerate" p) [e] [] pos) (iEnumT X.K ta) := by
  refine ⟨fun pnz s σ H R I h => ?_⟩
  refine Call_ (ld_blt I hGg hMm boot_enumerate (PyProof.Rows.callWith_type1 (thn (ha.run pos pnz s σ H _ I h) fun us sA ⟨vs, HA, IA, rA, qA⟩ => ?_) hs rfl))
  obtain ⟨a, ex, qA⟩ := qA
  subst ex
  have lower : ∀ {b x y : Addr}, sA.heap.objs.size ≤ x → sA.heap.objs.size ≤ y → b = x ∨ b = y → FpOk X pnz HA b := fun {b x y} hXx hy z => by
    have hLe : sA.heap.objs.size ≤ b := by
      rcases z with z | z
      · rw [z]; exact hXx
      · rw [z]; exact hy
    exact IA.fpOk hLe (IA.hok.fresh hLe)
  cases rA with
  | cons r rr =>
    cases rr
    cases r
    rcases qA with ⟨xs, hQq, q⟩ | ⟨xs, hQq, q⟩
    · obtain ⟨itz, rVs, p', hZz⟩ := IA.list hQq
      refine call_enumerate_list p'.isList fun h' he hIt hSz hKk => wpAny_pyIter_enum he ?_
      have IB : Inv X pnz σ HA { sA with heap := h' } := IA.kept (t' := sA.toks) hKk
      have la : a < sA.heap.objs.size := by obtain ⟨o, hOo, _⟩ := p'.isList; exact Heap.lt_size hOo
      refine ⟨sA.heap.objs.size + 1, [sA.heap.objs.size + 1, sA.heap.objs.size], _, _, HA, rfl, IB, turn_enumL a (sA.heap.objs.size + 1) sA.heap.objs.size xs.length (Nat.ne_of_gt (Nat.lt_succ_of_lt la)) (Nat.ne_of_lt la) (Nat.succ_ne_self _), ⟨⟨.none, he⟩, hIt, trivial⟩, fun b hb => lower (Nat.le_add_right _ 1) (Nat.le_refl _) (by simpa using hb), q⟩
    · obtain ⟨itz, rVs, p', hZz⟩ := IA.tuple hQq
      have la : a < sA.heap.objs.size := by obtain ⟨o, hOo, _⟩ := p'; exact Heap.lt_size hOo
      refine DLenum.call_enum_tuple p' fun h' he hIt hSz hKk => wpAny_pyIter_enum he ?_
      have IB : Inv X pnz σ HA { sA with heap := h' } := IA.kept (t' := sA.toks) hKk
      refine ⟨sA.heap.objs.size + 1, [sA.heap.objs.size + 1, sA.heap.objs.size], _, _, HA, rfl, IB, turn_enumT a (sA.heap.objs.size + 1) sA.heap.objs.size xs.length (Nat.ne_of_gt (Nat.lt_succ_of_lt la)) (Nat.ne_of_lt la) (Nat.succ_ne_self _), ⟨⟨.none, he⟩, hIt, trivial⟩, fun b hb => lower (Nat.le_add_right _ 1) (Nat.le_refl _) (by simpa using hb), q⟩
/-- a list or a tuple, whichever comes -/
def iSeq (K : PySem.W.Frag) (tl : TE) : TI := fun σ H R => tl σ H fun x HA => ∃ a, x = .ref a ∧ ((∃ xs, SqL K HA a xs ∧ R (Itl K a) HA) ∨ ∃ xs, SqT K HA a xs ∧ R (Itt K a) HA)
theorem pi_seq {X : Cx} {tg l : Expr} {tl : TE} (hLl : PE X l tl) : PI X tg l (iSeq X.K tl) := by
  refine ⟨fun pnz s σ H R I h => ?_⟩
  refine thn (hLl.run pnz s σ H _ I h) fun v sA ⟨x, HA, IA, rA, a, e, qA⟩ => ?_
  subst e
  cases rA
  have one : ∀ b ∈ [sA.heap.objs.size], FpOk X pnz HA b := fun b hb => by
    have e : b = sA.heap.objs.size := by simpa using hb
    rw [e]
    exact IA.fpOk (Nat.le_refl _) (IA.hok.fresh (Nat.le_refl _))
  rcases qA with ⟨xs, hQq, q⟩ | ⟨xs, hQq, q⟩
  · obtain ⟨itz, rVs, p, hZz⟩ := IA.list hQq
    exact wpAny_pyIter_list p.isList ⟨sA.heap.objs.size, [sA.heap.objs.size], _, _, HA, rfl, IA.kept (t' := sA.toks) fun b o e => Heap.get?_push_of_some _ e, turn_list a _, ⟨_, Heap.get?_push_size _ rfl, rfl, rfl⟩, one, q⟩
  · obtain ⟨itz, rVs, p, hZz⟩ := IA.tuple hQq
    exact wpAny_pyIter_tuple (show sA.heap.IsTuple a itz.toArray from p) ⟨sA.heap.objs.size, [sA.heap.objs.size], _, _, HA, rfl, IA.kept (t' := sA.toks) fun b o e => Heap.get?_push_of_some _ e, turn_tuple a _, ⟨_, Heap.get?_push_size _ rfl, rfl, rfl⟩, one, q⟩
def itemsOf : D → Option (List D)
  | .list ds => some ds
  | .tuple ds => some ds
  | .dict [(.none, .list ds)] => some ds
  | _ => none
theorem items_dict {es : List (D × D)} {ds : List D} (h : itemsOf (.dict es) = some ds) : PyData.dict es = scrD ds := by
  unfold itemsOf at h
  split at h <;> first | (cases h; done) | skip
  · rename_i e
    cases e
  · rename_i e
    cases e
  · rename_i e
    cases h
    exact e
/-- numbered: each item in a pair with itz number -/
def pairsFrom : Nat → List D → List D
  | _, [] => []
  | i, d :: ds => .tuple [.int (i : Nat), d] :: pairsFrom (i + 1) ds
theorem pairs_len : ∀ (ds : List D) (i : Nat), (pairsFrom i ds).length = ds.length
  | [], _ => rfl
  | d :: ds, i => congrArg (· + 1) (pairs_len ds (i + 1))
theorem pairs_at : ∀ (ds : List D) (i m : Nat) (d : D), ds[m]? = some d → (pairsFrom i ds)[m]? = some (.tuple [.int ((i + m : Nat)), d])
  | [], _, _, _, h => by simp at h
  | e :: ds, i, 0, d, h => by
    have z : e = d := by simpa using h
    subst z
    rfl
  | e :: ds, i, m + 1, d, h => by
    have q := pairs_at ds (i + 1) m d (by simpa using h)
    show (pairsFrom (i + 1) ds)[m]? = _
    rw [q, show i + 1 + m = i + (m + 1) by omega]
def sForS (f : FE) (tgt : FG) (body : FS) : FS := fun env => (f env).bind fun d => match itemsOf d with
  | some ds => forD tgt body ds env
  | none => .fail
def sForE (r : FL) (tgt : FG) (body : FS) : FS := fun env => (r env).bind fun ds => match ds with
  | [d] => match itemsOf d with
    | some ds => forD tgt body (pairsFrom 0 ds) env
    | none => .fail
  | _ => .fail
section
variable {X : Cx} {k : Kd} {sTt : Stmt} {pos : Pos}
/-- the walk of a list that is no more own, or of a tuple: what each turn reads -/
structure Src (K : PySem.W.Frag) (N : Addr → Prop) (H : Hp) (J : It) (ds : List D) : Prop where
  go : ∀ i N' HB, Pres K N N' H HB → (∀ x, N' x → HB x ≠ none) → i < ds.length → J.go i HB ∧ ∀ x H', J.yld i HB x H' → Same HB H' ∧ ∃ d, ds[i]? = some d ∧ In K N' H' x d
  stop : ∀ N' HB, Pres K N N' H HB → J.stop ds.length HB
theorem walk_src {K : PySem.W.Frag} {k : Kd} {ω : Option Om} {N0 N N1 : Addr → Prop} {E H HA : Hp} {D' : Ends} {tgt : FG} {body : FS} {env : Ev} {σ : L2.St} {b : Nat} {J : It} {ds : List D}
    (r : RepE K ω N1 E HA b env σ) (n0 : ∀ x, N0 x → N1 x) (e0 : ∀ x, N0 x → E x ≠ none) (p : Pres K N N1 H HA) (S : Src K N1 HA J ds) (q : (forD tgt body ds env).All b (EndR K k ω N0 N E H D')) :
    ∃ W : Nat → Nat → L2.St → Hp → Prop, (∃ m, W 0 m σ HA) ∧ ∀ i m σ H, W i m σ H →
      (J.stop i H ∧ D'.nx σ H) ∨ (J.go i H ∧ ∃ N : L2.St → Hp → Prop, (∀ σ' H', N σ' H' → ∃ m', m' < m ∧ W (i + 1) m' σ' H') ∧ ∀ x H', J.yld i H x H' → tG K tgt x σ H' fun σ2 HB => tS K k body { D' with nx := N, ct := N, bk := D'.nx } σ2 HB) := by
  refine ⟨fun i m σ2 HB => ∃ N2 c2 env2, RepE K ω N2 E HB c2 env2 σ2 ∧ (∀ x, N0 x → N2 x) ∧ Pres K N1 N2 HA HB ∧ i + m = ds.length ∧ (forD tgt body (ds.drop i) env2).All c2 (EndR K k ω N0 N E H D'),
    ⟨ds.length, N1, b, env, r, n0, Pres.refl, Nat.zero_add _, q⟩, fun i m σ2 HB ⟨N2, c2, env2, r2, n2, p2, em, q2⟩ => ?_⟩
  by_cases hIi : i < ds.length
  · rw [List.drop_eq_getElem_cons hIi] at q2
    obtain ⟨g1, g2⟩ := S.go i N2 HB p2 r2.dom hIi
    refine .inr ⟨g1, fun σ3 H3 => ∃ N3 c3 env3, RepE K ω N3 E H3 c3 env3 σ3 ∧ (∀ x, N0 x → N3 x) ∧ Pres K N1 N3 HA H3 ∧ (forD tgt body (ds.drop (i + 1)) env3).All c3 (EndR K k ω N0 N E H D'),
      fun σ3 H3 ⟨N3, c3, env3, r3, n3, p3, q3⟩ => ⟨m - 1, by omega, N3, c3, env3, r3, n3, p3, by omega, q3⟩, fun x H3 hy => ?_⟩
    obtain ⟨sm, d, ed, hDd⟩ := g2 x H3 hy
    rw [List.getElem?_eq_getElem hIi] at ed
    cases ed
    have r3 := r2.move (Keep.of sm) (r2.orc.same sm)
    have p3 : Pres K N2 N2 HB H3 := Pres.keep r2.om (Keep.of (ω := ω) sm)
    exact turn_for r3 n2 e0 (p.trans (p2.trans p3)) hDd q2 fun N4 H4 σ4 c4 env4 r4 n4 p4 q4 => ⟨N4, c4, env4, r4, n4, (p2.trans p3).trans p4, q4⟩
  · have ei : i = ds.length := by omega
    subst ei
    refine .inl ⟨S.stop N2 HB p2, ?_⟩
    rw [List.drop_length] at q2
    exact q2 N2 HB σ2 r2 n2 (p.trans p2)
theorem src_list {K : PySem.W.Frag} {N : Addr → Prop} {H : Hp} {a : Addr} {ds : List D} (h : In K N H (.ref a) (.list ds)) : Src K N H (Itl K a) ds where
  go := fun i N' HB p dom hIi => by
    obtain ⟨a', xs, ea, ha, h1⟩ := (p _ _ h).list_inv
    cases ea
    have hXx : i < xs.length := by rw [h1.length]; exact hIi
    refine ⟨⟨xs, xs[i], .inl (.inl ha), List.getElem?_eq_getElem hXx⟩, fun x H' ⟨eH, hy⟩ => ?_⟩
    subst eH
    exact ⟨Same.refl _, h1.get (hy _ (.inl (.inl ha)))⟩
  stop := fun N' HB p => by
    obtain ⟨a', xs, ea, ha, h1⟩ := (p _ _ h).list_inv
    cases ea
    exact ⟨xs, .inl (.inl ha), Nat.le_of_eq h1.length⟩
theorem src_scr {K : PySem.W.Frag} {N : Addr → Prop} {H : Hp} {a : Addr} {ds : List D} (h : In K N H (.ref a) (scrD ds)) : Src K N H (Itl K a) ds where
  go := fun i N' HB p dom hIi => by
    obtain ⟨a', xs, ea, hs, h1⟩ := (p _ _ h).scr_inv
    cases ea
    have hXx : i < xs.length := by rw [h1.length]; exact hIi
    refine ⟨⟨xs, xs[i], hs.seq, List.getElem?_eq_getElem hXx⟩, fun x H' ⟨eH, hy⟩ => ?_⟩
    subst eH
    exact ⟨Same.refl _, h1.get (hy _ hs.seq)⟩
  stop := fun N' HB p => by
    obtain ⟨a', xs, ea, hs, h1⟩ := (p _ _ h).scr_inv
    cases ea
    exact ⟨xs, hs.seq, Nat.le_of_eq h1.length⟩
theorem src_tuple {K : PySem.W.Frag} {N : Addr → Prop} {H : Hp} {a : Addr} {ds : List D} (h : In K N H (.ref a) (.tuple ds)) : Src K N H (Itt K a) ds where
  go := fun i N' HB p dom hIi => by
    obtain ⟨a', xs, ea, ha, h1⟩ := (p _ _ h).tuple_inv
    cases ea
    have hXx : i < xs.length := by rw [h1.length]; exact hIi
    refine ⟨⟨xs, xs[i], ha, List.getElem?_eq_getElem hXx⟩, fun x H' ⟨eH, hy⟩ => ?_⟩
    subst eH
    exact ⟨Same.refl _, h1.get (hy _ ha)⟩
  stop := fun N' HB p => by
    obtain ⟨a', xs, ea, ha, h1⟩ := (p _ _ h).tuple_inv
    cases ea
    exact ⟨xs, ha, Nat.le_of_eq h1.length⟩
theorem pair_in {K : PySem.W.Frag} {N' : Addr → Prop} {HB : Hp} {T : Addr} {o : Obj} {x : V} {d : D} {i : Nat} (hTt : HB T = none) (dom : ∀ x, N' x → HB x ≠ none) (od : o.dict = none) (h : In K N' HB x d) : In K N' (upd HB T (.frz o (.tup [.int (i : Nat), x]))) (.ref T) (.tuple [.int (i : Nat), d]) :=
  In.newTup (.cons (.int _) (.cons h .nil)) hTt dom od
theorem src_enumL {K : PySem.W.Frag} {N : Addr → Prop} {H : Hp} {a : Addr} {ds : List D} {n : Nat} (hNn : n = ds.length) (h : In K N H (.ref a) (.list ds)) : Src K N H (IteL K a n) (pairsFrom 0 ds) where
  go := fun i N' HB p dom hIi => by
    rw [pairs_len] at hIi
    obtain ⟨a', xs, ea, ha, h1⟩ := (p _ _ h).list_inv
    cases ea
    have hXx : i < xs.length := by rw [h1.length]; exact hIi
    refine ⟨⟨by rw [hNn]; exact hIi, xs, xs[i], .inl (.inl ha), by rw [h1.length, hNn], List.getElem?_eq_getElem hXx⟩, fun v H' ⟨T, x, o, ev, hTt, eH, od, hy⟩ => ?_⟩
    subst ev eH
    obtain ⟨d, ed, hDd⟩ := h1.get (hy _ (.inl (.inl ha)))
    have q := pairs_at ds 0 i d ed
    rw [Nat.zero_add] at q
    exact ⟨same_new hTt, _, q, pair_in hTt dom od hDd⟩
  stop := fun N' HB p => by
    obtain ⟨a', xs, ea, ha, h1⟩ := (p _ _ h).list_inv
    cases ea
    exact ⟨by rw [pairs_len, hNn], xs, .inl (.inl ha), by rw [h1.length, hNn]⟩
theorem src_enumS {K : PySem.W.Frag} {N : Addr → Prop} {H : Hp} {a : Addr} {ds : List D} {n : Nat} (hNn : n = ds.length) (h : In K N H (.ref a) (scrD ds)) : Src K N H (IteL K a n) (pairsFrom 0 ds) where
  go := fun i N' HB p dom hIi => by
    rw [pairs_len] at hIi
    obtain ⟨a', xs, ea, hs, h1⟩ := (p _ _ h).scr_inv
    cases ea
    have hXx : i < xs.length := by rw [h1.length]; exact hIi
    refine ⟨⟨by rw [hNn]; exact hIi, xs, xs[i], hs.seq, by rw [h1.length, hNn], List.getElem?_eq_getElem hXx⟩, fun v H' ⟨T, x, o, ev, hTt, eH, od, hy⟩ => ?_⟩
    subst ev eH
    obtain ⟨d, ed, hDd⟩ := h1.get (hy _ hs.seq)
    have q := pairs_at ds 0 i d ed
    rw [Nat.zero_add] at q
    exact ⟨same_new hTt, _, q, pair_in hTt dom od hDd⟩
  stop := fun N' HB p => by
    obtain ⟨a', xs, ea, hs, h1⟩ := (p _ _ h).scr_inv
    cases ea
    exact ⟨by rw [pairs_len, hNn], xs, hs.seq, by rw [h1.length, hNn]⟩
theorem src_enumT {K : PySem.W.Frag} {N : Addr → Prop} {H : Hp} {a : Addr} {ds : List D} {n : Nat} (hNn : n = ds.length) (h : In K N H (.ref a) (.tuple ds)) : Src K N H (IteT K a n) (pairsFrom 0 ds) where
  go := fun i N' HB p dom hIi => by
    rw [pairs_len] at hIi
    obtain ⟨a', xs, ea, ha, h1⟩ := (p _ _ h).tuple_inv
    cases ea
    have hXx : i < xs.length := by rw [h1.length]; exact hIi
    refine ⟨⟨by rw [hNn]; exact hIi, xs, xs[i], ha, by rw [h1.length, hNn], List.getElem?_eq_getElem hXx⟩, fun v H' ⟨T, x, o, ev, hTt, eH, od, hy⟩ => ?_⟩
    subst ev eH
    obtain ⟨d, ed, hDd⟩ := h1.get (hy _ ha)
    have q := pairs_at ds 0 i d ed
    rw [Nat.zero_add] at q
    exact ⟨same_new hTt, _, q, pair_in hTt dom od hDd⟩
  stop := fun N' HB p => by
    obtain ⟨a', xs, ea, ha, h1⟩ := (p _ _ h).tuple_inv
    cases ea
    exact ⟨by rw [pairs_len, hNn], xs, ha, by rw [h1.length, hNn]⟩
theorem xs_forS {f : FE} {tgt : FG} {body : FS} (h : PS X sTt (tFor (iSeq X.K (tX X.K .v f)) (tG X.K tgt) (tS X.K k body))) : XS X k sTt (sForS f tgt body) :=
  weakS h fun D' σ H ⟨ω, N0, N, E, b, env, r, n0, e0, q⟩ => by
  refine ⟨ω, N, E, b, env, r, Tr.All_mono ((Tr.All_bind _ _ _ _).mp q) fun d c qa v HA k1 o1 i1 => ?_⟩
  have rA := r.move k1 o1
  have p1 := Pres.keep (K := X.K) r.om k1
  cases d with
  | list ds =>
    have i2 := i1
    obtain ⟨a, xs, rfl, ha, h1⟩ := In.list_inv i1
    exact ⟨a, rfl, .inl ⟨xs, .inl (.inl ha), walk_src rA n0 e0 p1 (src_list i2) qa⟩⟩
  | tuple ds =>
    have i2 := i1
    obtain ⟨a, xs, rfl, ha, h1⟩ := In.tuple_inv i1
    exact ⟨a, rfl, .inr ⟨xs, ha, walk_src rA n0 e0 p1 (src_tuple i2) qa⟩⟩
  | dict es =>
    cases hI : itemsOf (.dict es) with
    | none => rw [hI] at qa; exact qa.elim
    | some ds =>
      rw [hI] at qa
      rw [items_dict hI] at i1
      have i2 := i1
      obtain ⟨a, xs, rfl, hs, h1⟩ := In.scr_inv i1
      exact ⟨a, rfl, .inl ⟨xs, hs.seq, walk_src rA n0 e0 p1 (src_scr i2) qa⟩⟩
  | _ => exact qa.elim
theorem xs_forE {r : FL} {tgt : FG} {body : FS} (h : PS X sTt (tFor (iEnumT X.K (tL X.K r)) (tG X.K tgt) (tS X.K k body))) : XS X k sTt (sForE r tgt body) :=
  weakS h fun D' σ H ⟨ω, N0, N, E, b, env, r, n0, e0, q⟩ => by
  refine ⟨ω, N, E, b, env, r, Tr.All_mono ((Tr.All_bind _ _ _ _).mp q) fun ds c qa vs HA k1 o1 i1 => ?_⟩
  have rA := r.move k1 o1
  have p1 := Pres.keep (K := X.K) r.om k1
  match ds, qa, i1 with
  | [d], qa, .cons i1 .nil =>
    cases d with
    | list ds =>
      have i2 := i1
      obtain ⟨a, xs, rfl, ha, h1⟩ := In.list_inv i1
      exact ⟨a, rfl, .inl ⟨xs, .inl (.inl ha), walk_src rA n0 e0 p1 (src_enumL h1.length i2) qa⟩⟩
    | tuple ds =>
      have i2 := i1
      obtain ⟨a, xs, rfl, ha, h1⟩ := In.tuple_inv i1
      exact ⟨a, rfl, .inr ⟨xs, ha, walk_src rA n0 e0 p1 (src_enumT h1.length i2) qa⟩⟩
    | dict es =>
      cases hI : itemsOf (.dict es) with
      | none => simp only [hI] at qa; exact qa.elim
      | some ds =>
        simp only [hI] at qa
        rw [items_dict hI] at i1
        have i2 := i1
        obtain ⟨a, xs, rfl, hs, h1⟩ := In.scr_inv i1
        exact ⟨a, rfl, .inl ⟨xs, hs.seq, walk_src rA n0 e0 p1 (src_enumS h1.length i2) qa⟩⟩
    | _ => exact qa.elim
end
end DL
end
section
set_option linter.all false
set_option maxRecDepth 100000
namespace DL
open PySem PySem.Spec PyProof.Rows L2
def setS (o : Bool) (i : Nat) (d : D) (env : Ev) : Ev := env.set i (some (if o = true then .own d else .val d))
def kdOf (o : Bool) : Kd := if o = true then .o else .v
def sPar (o1 o2 : Bool) (i j : Nat) (f1 f2 : FE) : FS := fun env => (f1 env).bind fun x => (f2 env).bind fun y => .ret (.nx (setS o2 j y (setS o1 i x env)))
/-- the frame with one more slot filled: N grows by what is own -/
theorem RepE.fill {K : PySem.W.Frag} {ω : Option Om} {N : Addr → Prop} {E H H1 : Hp} {b c : Nat} {env : Ev} {σ : L2.St} {o : Bool} {i : Nat} {x : D} {v : V} (r : RepE K ω N E H b env σ) (k1 : Keep ω H H1) (oo : OrcO ω c H1) (h : RK K ω N H H1 (kdOf o) v x) :
    ∃ N1, RepE K ω N1 E H1 c env σ ∧ RepE K ω N1 E H1 c (setS o i x env) (σ.set i (some v)) ∧ (∀ z, N z → N1 z) ∧ Pres K N N1 H H1 := by
  cases o with
  | false => exact ⟨N, r.move k1 oo, (r.move k1 oo).setV h, fun _ z => z, Pres.keep r.om k1⟩
  | true =>
    obtain ⟨p, rfl, hp, h1⟩ := h
    obtain ⟨op, ep⟩ := h1.there
    refine ⟨addN N p, r.more k1 oo hp (by rw [ep]; exact fun q => nomatch q), r.own k1 oo hp h1, fun _ z => .inl z, fun v d hv => ?_⟩
    exact hv.mono (fun x z => z.elim .inl fun e => .inr (by rw [e]; exact hp)) fun x o e n => k1 x o e fun z => n (r.om x z)
theorem xs_par {X : Cx} {k : Kd} {st : Stmt} {o1 o2 : Bool} {i j : Nat} {f1 f2 : FE} (h : PS X st (tPar i j (tCons (tX X.K (kdOf o1) f1) (tCons (tX X.K (kdOf o2) f2) tNil)))) : XS X k st (sPar o1 o2 i j f1 f2) := weakS h fun D' σ H ⟨ω, N0, N, E, b, env, r, n0, e0, q⟩ => by
  refine ⟨ω, N, E, b, env, r, Tr.All_mono ((Tr.All_bind _ _ _ _).mp q) fun x c qa v H1 k1 o1' i1 => ?_⟩
  obtain ⟨N1, rA, rB, s1, p1⟩ := r.fill (i := i) k1 o1' i1
  refine ⟨ω, N1, E, c, env, rA, Tr.All_mono ((Tr.All_bind _ _ _ _).mp qa) fun y c2 qb u H2 k2 o2' i2 => ⟨v, u, rfl, ?_⟩⟩
  obtain ⟨N2, _, rC, s2, p2⟩ := rB.fill (i := j) k2 o2' i2
  exact qb N2 H2 _ rC (fun z hz => s2 z (s1 z (n0 z hz))) (p1.trans p2)
def keyOf : D → Option Key
  | .int i => some (.inl i)
  | .str x => some (.inr x)
  | _ => none
def isKey (k : Key) (d : D) : Bool := decide (keyOf d = some k)
def getD (es : List (D × D)) (k : Key) : Option D := (es.find? fun e => isKey k e.1).map (·.2)
def putD (es : List (D × D)) (k : Key) (v : D) : List (D × D) := if (es.any fun e => isKey k e.1) = true then es.map fun e => if isKey k e.1 = true then (e.1, v) else e else es ++ [(keyD k, v)]
section
variable {K : PySem.W.Frag} {N : Addr → Prop} {H : Hp}
end
def eDNew : FE := fun _ => .ret (.dict [])
section
variable {X : Cx} {k : Kd} {st : Stmt} {e : Expr} {pos : Pos}
/-- y in d, d an own dict -/
def eDIn (neg : Bool) (i : Nat) (fk : FE) : FE := fun env => match env[i]? with
  | some (some (.own (.dict es))) => if tKeyed es = true then .fail else (fk env).bind fun y => match keyOf y with
    | some k => .ret (.bool (if neg = true then !(getD es k).isSome else (getD es k).isSome))
    | none => .fail
  | _ => .fail
/-- d[y], d own -/
def eDGet (i : Nat) (fk : FE) : FE := fun env => match env[i]? with
  | some (some (.own (.dict es))) => (fk env).bind fun y => match keyOf y with
    | some k => Tr.ofOpt (getD es k)
    | none => .fail
  | _ => .fail
/-- d[y] = v, d own -/
def sDPutD (i : Nat) (fk fv : FE) : FS := fun env => match env[i]? with
  | some (some (.own (.dict es))) => if tKeyed es = true then .fail else (fv env).bind fun x => (fk env).bind fun y => match keyOf y with
    | some k => if es.length < sizeLine then .ret (.nx (env.set i (some (.own (.dict (putD es k x)))))) else .fail
    | none => .fail
  | _ => .fail
end
end DL
end
section
set_option linter.all false
set_option maxRecDepth 100000
namespace DL
open PySem PySem.Spec PyProof.Rows L2
structure FnG (P : Program) (w : World) (K : PySem.W.Frag) (mg : Str → Option Value) (base : Heap) (k : Nat) (f : Addr) (fd : FuncData) (ps : List Str) (sp : Sp) : Prop where
  len : ∀ vs H Q E, sp vs H Q E → vs.length = ps.length
  go : ∀ {A : Around}, A.guards = some [] → Room k A → ∀ {outer : List Env} {s : Shared} {H : Hp} {args : Args} {us : List Value} {vs : List V} {Q : VK} {E : XK}, Env0 P w K mg base A outer s H → BindsTo s fd args (ps.zip us) → Vals vs us → sp vs H Q E →
    codeAny (model P w) A (.call (.ref f) args) (CR CX0 outer P w H s Q E) s
theorem fn_ok {P : Program} {w : World} {K : PySem.W.Frag} {mg : Str → Option Value} {base : Heap} {x qual : Str} {st : Stmt} {f : Addr} {fd : FuncData} {Ns ps : List Str} {m : Nat} {k : Kd} {fb : FS} (F : Fun K x qual st f fd) (S : FnScope Ns ps (defScope st))
    (hbody : ∀ (cdv : Value) (A : Around) (outer : List Env) (s : Shared) (H : Hp) (E : XK), Room m (A.deeper (envOfC qual (defScope st) s.heap.objs.size f cdv)) → A.guards = some [] →
      XSs (cxOf CX0 P w K mg base Ns qual (defScope st) f cdv A outer s H E).nox k (defBody st) fb) : FnG P w K mg base (m + 1) f fd ps (spD K k ps.length (fnF Ns.length k fb)) := by
  obtain ⟨oc, od, kV, doc, pm, an, cdv, ct, osl, rfl, lk, hcd⟩ := F.ex
  have len : ∀ vs H Q E, spD K k ps.length (fnF Ns.length k fb) vs H Q E → vs.length = ps.length := fun vs H Q E ⟨ω, N, b, ss, hl, om, dom, ⟨orc, tb⟩, h, q⟩ => h.length.symm.trans hl
  refine ⟨len, fun {A} hg hr {outer s H args us vs Q E} e0 hb hv hs => LamX.run_ofS lk hcd S hr e0 hb hv (len _ _ _ _ hs) fun hr' => ?_⟩
  obtain ⟨ω, N, b, ss, hl, om, dom, ⟨orc, tb⟩, h, q⟩ := hs
  refine ⟨_, (hbody cdv A outer s H E hr' hg).nox, ?_⟩
  refine ⟨ω, N, N, H, b, startE Ns.length ss, rep_start om dom orc tb h, fun _ z => z, dom, Tr.All_mono ((Tr.All_bind _ _ _ _).mp q) fun o c qa => ?_⟩
  cases o with
  | nx env' =>
    cases k with
    | v => exact fun N' H' σ' r n0 p => qa .non H' r.keep r.orc .non
    | b => exact qa.elim
    | o => exact qa.elim
    | t => exact qa.elim
  | bk env' => exact qa.elim
  | ct env' => exact qa.elim
  | rv d => exact qa
structure Cal (P : Program) (w : World) (K : PySem.W.Frag) (mg : Str → Option Value) (base : Heap) (x : Str) (j : Nat) (ps : List Str) (sp : Sp) : Prop where
  ex : ∃ f fd, FnG P w K mg base j f fd ps sp ∧ L2.Binds K fd ps [] ∧ mg x = some (.ref f) ∧ PySem.W.keepIn K (.ref f) = true
section
variable {X : Cx} {e : Expr} {es : List Expr} {pos : Pos}
theorem FnG.call {j : Nat} {f : Addr} {fd : FuncData} {ps : List Str} {sp : Sp} {pins : List (Addr × Obj)} {σ : L2.St} {H : Hp} {s : Shared} {Q : VK} {us : List Value} {vs : List V} (G : FnG X.prog X.w X.K X.mg X.base j f fd ps sp) (hgd : X.A.guards = some []) (hr : Room j X.A) (hb : L2.Binds X.K fd ps [])
    (I : Inv X pins σ H s) (rv : Vals vs us) (h : sp vs H Q E0) : wpAny (model X.prog X.w) X.A (call (.ref f) us) (EP X pins σ Q) X.xe s := by
  have hlen : (us ++ []).length = ps.length := by rw [List.append_nil, ← rv.length]; exact G.len _ _ _ _ h
  have hbd := hb s us I.kIn hlen
  rw [List.append_nil] at hbd
  refine wpAny_call (codeAny_mono (G.go hgd hr I.env0 hbd rv h) fun out s2 fin => ?_)
  match out, fin with
  | .error ex, fin => exact pass0 pins σ H s ex s2 I fin
  | .ok (.ret u), fin => exact I.after fin
theorem xe_callC {x : Str} {p : Pos} {F : List Slot → Tr D} {k : Kd} {n j : Nat} {ps : List Str} {r : FA} (C : Cal X.prog X.w X.K X.mg X.base x j ps (spD X.K k n F)) (hr : Room j X.A) (hgd : X.A.guards = some []) (hg : Gl X x) (ha : PA X (e :: es) (tAs X.K r)) (hn : ArgN r n)
    (hdb : (x == ("__debug__" : Str)) = false := by decide) (he : starEach (e :: es) X.env = (false, eval e X.env) :: starEach es X.env := by rfl) (hpl : (backTo pos (starEach es X.env)).any (·.1) = false := by rfl) : XE X k (.Call (.Name x p) (e :: es) [] pos) (eCall F r) := by
  obtain ⟨f, fd, G, hb, hm, hk⟩ := C.ex
  refine ⟨fun pins s σ H Q I h => wpAny_Call_Name_kw (ld_glob I hg hm (PySem.W.callWith_K (h₀ := X.base) I.ok.mod.kin hk (thn (ha.run pos pins s σ H _ I (readF hn h)) fun us s1 ⟨vs, H1, I1, rv, q⟩ => ⟨I1.kIn, ?_⟩) he hpl) hdb)⟩
  exact G.call hgd hr hb I1 rv (by simpa using q)
def eDLen (i : Nat) : FE := fun env => match env[i]? with
  | some (some (.own (.dict es))) => if tKeyed es = true then .fail else .ret (.int (es.length : Nat))
  | _ => .fail
def tyName : D → Option String
  | .none => some "NoneType"
  | .bool _ => some "bool"
  | .int _ => some "int"
  | .str _ => some "str"
  | .list _ => some "list"
  | .tuple _ => some "tuple"
  | .dict _ => none
def fTy (neg : Bool) (T : String) (f : FE) : FT := fun env => (f env).bind fun d => match tyName d with
  | some n => .ret (if neg = true then !decide (n = T) else decide (n = T))
  | none => .fail
theorem ty_in {K : PySem.W.Frag} {ω : Option Om} {N : Addr → Prop} {H : Hp} {v : V} {d : D} {n : String} (h : InB K ω N H v d) (e : tyName d = some n) : TyB K H v n := by
  cases d with
  | none => cases e; cases h.none; exact .non
  | bool b => cases e; cases h.bool; exact .bl b
  | int i => cases e; cases h.int; exact .int i
  | str x => cases e; cases h.str; exact .str x
  | list ds => cases e; obtain ⟨a, xs, rfl, ha, _⟩ := h.list; exact .lst (.inl (.inl ha))
  | tuple ds => cases e; obtain ⟨a, xs, rfl, ha, _⟩ := h.tuple; exact .tup ha
  | dict es => cases e
theorem xt_isNotTy {T : String} {f : FE} (h : PT X e (tTest (tOp rNT (tCB (rTyp X.K) (tCons (tX X.K .b f) tNil)) (tC (.ty T))))) : XT X e (fTy true T f) := weakT h fun σ H Q ⟨ω, N, E, b, env, r, q⟩ => by
  refine ⟨ω, N, E, b, env, r, Tr.All_mono ((Tr.All_bind _ _ _ _).mp q) fun d c qa v H1 k1 o1 i1 => ?_⟩
  cases en : tyName d with
  | none => simp only [en] at qa; exact qa.elim
  | some n =>
    simp only [en] at qa
    exact ⟨v, n, rfl, ty_in i1 en, n, T, rfl, rfl, _, rfl, qa H1 k1 o1⟩
/-- the same as a value -/
def eTy (neg : Bool) (T : String) (f : FE) : FE := fun env => (f env).bind fun d => match tyName d with
  | some n => .ret (.bool (if neg = true then !decide (n = T) else decide (n = T)))
  | none => .fail
theorem xe_isTy {T : String} {f : FE} (h : PE X e (tOp (fun x y H Q => ∃ a b, x = .ty a ∧ y = .ty b ∧ Q (.bl (decide (a = b))) H) (tCB (rTyp X.K) (tCons (tX X.K .b f) tNil)) (tC (.ty T)))) : XE X .v e (eTy false T f) := weak h fun σ H Q ⟨ω, N, E, b, env, r, q⟩ => by
  refine ⟨ω, N, E, b, env, r, Tr.All_mono ((Tr.All_bind _ _ _ _).mp q) fun d c qa v H1 k1 o1 i1 => ?_⟩
  cases en : tyName d with
  | none => simp only [en] at qa; exact qa.elim
  | some n =>
    simp only [en] at qa
    exact ⟨v, n, rfl, ty_in i1 en, n, T, rfl, rfl, qa _ H1 k1 o1 (.bl _)⟩
def truD : D → Option Bool
  | .none => some false
  | .bool b => some b
  | .int i => some (i != 0)
  | .list ds => some (!ds.isEmpty)
  | .tuple ds => some (!ds.isEmpty)
  | _ => none
def fTru (f : FE) : FT := fun env => (f env).bind fun d => match truD d with
  | some k => .ret k
  | none => .fail
def dNeg : D → Option D
  | .int i => some (.int (-i))
  | _ => none
def eNeg (f : FE) : FE := fun env => (f env).bind fun d => Tr.ofOpt (dNeg d)
theorem xe_neg {f : FE} (h : PE X e (tUn (rU fun i => .int (-i)) (tX X.K .b f))) : XE X .v e (eNeg f) := weak h fun σ H Q ⟨ω, N, E, b, env, r, q⟩ => by
  refine ⟨ω, N, E, b, env, r, Tr.All_mono ((Tr.All_bind _ _ _ _).mp q) fun d c qa v H1 k1 o1 i1 => ?_⟩
  have i1 : InB X.K ω N H1 v d := i1
  cases d with
  | int i => cases i1.int; exact ⟨i, rfl, qa _ H1 k1 o1 (.int _)⟩
  | _ => exact qa.elim
def dIdx (ds : List D) (y : D) : Option D := if flatD y = true ∧ ds.all flatD = true then (if memD y ds = true then some (.int ((ds.findIdx fun z => PyData.eqv z y : Nat))) else none) else none
end
section
variable {X : Cx} {e : Expr} {pos : Pos}
def eRgL (r : FL) : FE := fun env => (r env).bind fun ds => match rngOf ds with
  | some (lo, n) => if n ≤ 16777216 then .ret (.list (rngD lo n)) else .fail
  | none => .fail
def eRgT (r : FL) : FE := fun env => (r env).bind fun ds => match rngOf ds with
  | some (lo, n) => if n ≤ 16777216 then .ret (.tuple (rngD lo n)) else .fail
  | none => .fail
theorem rgV_in {K : PySem.W.Frag} {N : Addr → Prop} {H : Hp} (a b : Int) : InAll K N H (rgV a b) (rngD a (b - a).toNat) := by
  unfold rgV rngD
  generalize (b - a).toNat = n
  induction n with
  | zero => exact .nil
  | succ n ih =>
    rw [List.range_succ, List.map_append, List.map_append]
    exact ih.append (.cons (.int _) .nil)
end
end DL
end
section
set_option linter.all false
set_option maxRecDepth 100000
namespace DL
open PySem PySem.Spec PyProof.Rows L2
def dAddA (x y : D) : Option D := match dAdd x y with
  | some d => some d
  | none => dCat x y
theorem o_addA {X : Cx} : OpR X (binaryOp .Add) (rD2 X.K dAddA .v) := by
  intro pins s σ H x y v u Q I rx ry ⟨ω, N, d, e, z, om, dom, hx, hy, hg, k⟩
  unfold dAddA at hg
  cases q : dAdd d e with
  | some d' =>
    rw [q] at hg
    cases hg
    exact o_add pins s σ H x y v u Q I rx ry ⟨ω, N, d, e, _, om, dom, hx, hy, q, k⟩
  | none =>
    rw [q] at hg
    exact o_cat pins s σ H x y v u Q I rx ry ⟨ω, N, d, e, z, om, dom, hx, hy, hg, fun v' H' s' h => k v' H' s' (h.ov dom)⟩
def dSlA (lo hi : Option Int) (d : D) : Option D := match d with
  | .list ds => some (.list (cutD ds lo hi))
  | .tuple ds => some (.tuple (cutD ds lo hi))
  | _ => none
theorem x_slA {X : Cx} : SlR X (rDsl X.K dSlA .v) := by
  intro pins s σ H x v vl vu lo hi sl Q I rx hs pl pu ⟨ω, N, d, z, om, dom, hx, hg, k⟩
  cases d <;> first | (cases hg; done) | skip
  · cases hg
    exact x_slL pins s σ H x v vl vu lo hi sl Q I rx hs pl pu ⟨ω, N, _, _, om, dom, hx, rfl, fun v' H' s' h => k v' H' s' (h.ov dom)⟩
  · cases hg
    exact x_slT pins s σ H x v vl vu lo hi sl Q I rx hs pl pu ⟨ω, N, _, _, om, dom, hx, rfl, k⟩
section
variable {X : Cx} {e : Expr}
def eCompS (f : FE) (tgt : FG) (t : FT) (fe : FE) (vs : List Nat) : FE := fun env => (f env).bind fun d => match itemsOf d with
  | some ds => endComp tgt t fe (wipeE env vs) ds
  | none => .fail
theorem rd_compS {f fe : FE} {g : TG} {tgt : FG} {tt : TT} {ft : FT} {vs : List Nat} (hg : OwnTg X.K g tgt vs) (htt : ∀ σ H Q, tY X.K ft σ H Q → tt σ H Q) : ∀ σ H Q, tX X.K .o (eCompS f tgt ft fe vs) σ H Q → ((tLc (iSeq X.K (tX X.K .b f)) g tt (tX X.K .v fe) vs)) σ H Q :=
  fun σ H Q ⟨ω, N, E, b, env, r, q⟩ => by
  refine ⟨ω, N, E, b, env, r, Tr.All_mono ((Tr.All_bind _ _ _ _).mp q) fun d c qa v H1 k1 o1 i1 => ?_⟩
  have i1 : InB X.K ω N H1 v d := i1
  cases d with
  | list ds =>
    obtain ⟨a, xs, rfl, ha, h1, no⟩ := InB.list2 i1 r.om
    refine ⟨a, rfl, .inl ⟨xs, .inl (.inl ha), comp_core (r.move k1 o1) k1 (fun i H2 N' k2 p2 hi => ?_) (fun H2 k2 => ?_) hg htt qa⟩⟩
    · have ha2 : H2 a = some (.lst xs) := k2 _ _ ha no
      have hx : i < xs.length := by rw [h1.length]; exact hi
      refine ⟨⟨xs, xs[i], .inl (.inl ha2), List.getElem?_eq_getElem hx⟩, fun x H' ⟨eH, hy⟩ => ⟨eH, ?_⟩⟩
      obtain ⟨d, ed, hd⟩ := (all_pres p2 h1).get (hy _ (.inl (.inl ha2)))
      exact ⟨d, ed, hd⟩
    · exact ⟨xs, .inl (.inl (k2 _ _ ha no)), Nat.le_of_eq h1.length⟩
  | tuple ds =>
    have i2 : In X.K N H1 v (.tuple ds) := by
      rcases i1 with i1 | ⟨_, _, _, i1⟩
      · exact i1
      · exact i1.elim
    obtain ⟨a, xs, rfl, h1, hT⟩ := seqT_keep (H2 := H1) i2 r.om
    refine ⟨a, rfl, .inr ⟨xs, hT _ Keep.refl, comp_core (r.move k1 o1) k1 (fun i H2 N' k2 p2 hi => ?_) (fun H2 k2 => ?_) hg htt qa⟩⟩
    · have hx : i < xs.length := by rw [h1.length]; exact hi
      refine ⟨⟨xs, xs[i], hT _ k2, List.getElem?_eq_getElem hx⟩, fun x H' ⟨eH, hy⟩ => ⟨eH, ?_⟩⟩
      obtain ⟨d, ed, hd⟩ := (all_pres p2 h1).get (hy _ (hT _ k2))
      exact ⟨d, ed, hd⟩
    · exact ⟨xs, hT _ k2, Nat.le_of_eq h1.length⟩
  | dict es =>
    cases hI : itemsOf (.dict es) with
    | none => rw [hI] at qa; exact qa.elim
    | some ds =>
      rw [hI] at qa
      rw [items_dict hI] at i1
      have i2 : In X.K N H1 v (scrD ds) := by
        rcases i1 with i1 | ⟨a, e, n, kvs, ea, i1⟩
        · exact i1
        · exact absurd rfl (InKV.key i1 _ (List.mem_cons_self ..))
      obtain ⟨a, xs, rfl, hs, h1⟩ := i2.scr_inv
      have hk : ∀ H2, Keep ω H1 H2 → SqL X.K H2 a xs := fun H2 k2 => (hs.mono (N' := N) (fun _ z => .inl z) fun x o e n => k2 x o e fun z => n (r.om x z)).seq
      refine ⟨a, rfl, .inl ⟨xs, hs.seq, comp_core (r.move k1 o1) k1 (fun i H2 N' k2 p2 hi => ?_) (fun H2 k2 => ?_) hg htt qa⟩⟩
      · have hx : i < xs.length := by rw [h1.length]; exact hi
        refine ⟨⟨xs, xs[i], hk _ k2, List.getElem?_eq_getElem hx⟩, fun x H' ⟨eH, hy⟩ => ⟨eH, ?_⟩⟩
        obtain ⟨d, ed, hd⟩ := (all_pres p2 h1).get (hy _ (hk _ k2))
        exact ⟨d, ed, hd⟩
      · exact ⟨xs, hk _ k2, Nat.le_of_eq h1.length⟩
  | _ => exact qa.elim
theorem xe_compS {f fe : FE} {g : TG} {tgt : FG} {tt : TT} {ft : FT} {vs : List Nat} (hg : OwnTg X.K g tgt vs) (htt : ∀ σ H Q, tY X.K ft σ H Q → tt σ H Q) (h : PE X e ((tLc (iSeq X.K (tX X.K .b f)) g tt (tX X.K .v fe) vs))) : XE X .o e (eCompS f tgt ft fe vs) := weak h (rd_compS hg htt)
theorem xe_rgL1 {f : FE} (h : PE X e (tLstRg (tRg1 (tX X.K .b f)))) : XE X .o e (eRgL (lCons f lNil)) := weak h fun σ H Q ⟨ω, N, E, b, env, r, q⟩ => by
  refine ⟨ω, N, E, b, env, r, Tr.All_mono ((Tr.All_bind _ _ _ _).mp ((Tr.All_bind _ _ _ _).mp q)) fun d c qa v H1 k1 o1 i1 => ?_⟩
  have i1 : InB X.K ω N H1 v d := i1
  cases d with
  | int n =>
    cases i1.int
    have qa : (match rngOf [.int n] with | some (lo, n) => if n ≤ 16777216 then .ret (.list (rngD lo n)) else .fail | none => .fail : Tr D).All c fun d c => ∀ v H', Keep ω H H' → OrcO ω c H' → RK X.K ω N H H' .o v d → Q v H' := qa
    by_cases hz : ok62 n = true
    · simp only [rngOf, if_pos hz] at qa
      have hz' := of_decide_eq_true hz
      by_cases hn : n.toNat ≤ 16777216
      · rw [if_pos hn] at qa
        refine ⟨n, rfl, ⟨by decide, by decide, hz'.1, hz'.2, by rw [Int.sub_zero]; exact hn⟩, fun p hp => qa _ _ (k1.trans (Keep.of (same_new hp))) (o1.same (same_new hp)) ?_⟩
        have hi : InAll X.K N H1 (rgV 0 n) (rngD 0 n.toNat) := by
          have q := rgV_in (K := X.K) (N := N) (H := H1) 0 n
          rwa [Int.sub_zero] at q
        exact RK.back (ω := ω) k1 o1 (RK.newLst hi hp)
      · rw [if_neg hn] at qa
        exact qa.elim
    · simp only [rngOf, if_neg hz] at qa
      exact qa.elim
  | _ => exact qa.elim
def eIdx (f fy : FE) : FE := fun env => (f env).bind fun d => match d with
  | .list ds => (fy env).bind fun y => Tr.ofOpt (dIdx ds y)
  | _ => .fail
theorem xe_idx {f fy : FE} (h : PE X e (tBM X.K "list" (rIndex X.K) (tX X.K .b f) (tCons (tX X.K .b fy) tNil))) : XE X .v e (eIdx f fy) := weak h fun σ H Q ⟨ω, N, E, b, env, r, q⟩ => by
  refine ⟨ω, N, E, b, env, r, Tr.All_mono ((Tr.All_bind _ _ _ _).mp q) fun d c qa v H1 k1 o1 i1 => ?_⟩
  have i1 : InB X.K ω N H1 v d := i1
  cases d with
  | list ds =>
    obtain ⟨a, xs, rfl, ha, h1, no⟩ := InB.list2 i1 r.om
    refine ⟨.inl ⟨rfl, xs, .inl (.inl ha)⟩, ω, N, E, c, env, r.move k1 o1, Tr.All_mono ((Tr.All_bind _ _ _ _).mp qa) fun y c2 qb u H2 k2 o2 i2 => ?_⟩
    have i2 : InB X.K ω N H2 u y := i2
    have h2 : InAll X.K N H2 xs ds := h1.keep r.om k2
    have ha2 := k2 _ _ ha no
    unfold dIdx at qb
    split at qb
    · rename_i hf
      split at qb
      · rename_i hm
        have iy := i2.flat hf.1
        obtain ⟨d0, hd0, he0⟩ : ∃ z ∈ ds, PyData.eqv z y = true := by
          unfold memD at hm
          exact List.any_eq_true.mp hm
        have hlt : (ds.findIdx fun z => PyData.eqv z y) < ds.length := List.findIdx_lt_length_of_exists ⟨d0, hd0, he0⟩
        obtain ⟨w, hw, iw⟩ := h2.get' (List.getElem?_eq_getElem hlt)
        have fl : ∀ (m : Nat) (hm : m < ds.length), flatD ds[m] = true := fun m hm => List.all_eq_true.mp hf.2 _ (List.getElem_mem hm)
        refine ⟨a, xs, u, _, w, rfl, rfl, .inl (.inl ha2), flat_in iy hf.1, flats_in h2 hf.2, hw, ?_, fun m z' hm hz => ?_, qb _ H2 (k1.trans k2) o2 (.int _)⟩
        · rw [eqV_in iw iy (fl _ hlt) hf.1]
          exact List.findIdx_getElem (w := hlt)
        · have hm2 : m < ds.length := Nat.lt_trans hm hlt
          obtain ⟨d1, e1, i3⟩ := h2.get hz
          rw [List.getElem?_eq_getElem hm2] at e1
          cases e1
          rw [eqV_in i3 iy (fl _ hm2) hf.1]
          exact List.not_of_lt_findIdx hm
      · exact qb.elim
    · exact qb.elim
  | _ => exact qa.elim
end
end DL
end
section
set_option linter.all false
set_option maxRecDepth 100000
namespace DL
open PySem PySem.Spec PyProof.Rows L2
section
variable {X : Cx} {k : Kd} {st : Stmt} {e : Expr} {pos : Pos}
theorem xs_setLc {i : Nat} {t : TE} {f : FE} (h : PS X st (tAsg t (gName i))) (hk : ∀ σ H Q, tX X.K .o f σ H Q → t σ H Q) : XS X k st (sSetO i f) := weakS h fun D σ H ⟨ω, N0, N, E, b, env, r, n0, e0, q⟩ => by
  refine hk _ _ _ ⟨ω, N, E, b, env, r, Tr.All_mono ((Tr.All_bind _ _ _ _).mp q) fun d c qa v H1 k1 o1 i1 => ?_⟩
  obtain ⟨p, rfl, hp, i1⟩ := i1
  refine qa (addN N p) H1 _ (r.own k1 o1 hp i1) (fun x z => .inl (n0 x z)) fun v d h => ?_
  exact h.mono (fun x z => z.elim .inl fun e => .inr (by rw [e]; exact hp)) fun x o e n => k1 x o e fun z => n (r.om x z)
theorem xs_setLcV {i : Nat} {t : TE} {f : FE} (h : PS X st (tAsg t (gName i))) (hk : ∀ σ H Q, tX X.K .v f σ H Q → t σ H Q) : XS X k st (sSet i f) := weakS h fun D σ H ⟨ω, N0, N, E, b, env, r, n0, e0, q⟩ => by
  refine hk _ _ _ ⟨ω, N, E, b, env, r, Tr.All_mono ((Tr.All_bind _ _ _ _).mp q) fun d c qa v H1 k1 o1 i1 => ?_⟩
  exact qa N H1 _ ((r.move k1 o1).setV i1) n0 (Pres.keep r.om k1)
end
end DL
end
section
set_option linter.all false
set_option maxRecDepth 100000
namespace HT
open PySem PySem.Spec PyProof.Rows L2
section
variable {prog : Program} {w : World} {A : Around} {E : Value → Shared → Prop} {s : Shared}
theorem fm_some {α β : Type} (f : α → Option β) (g : α → β) : ∀ l : List α, (∀ k ∈ l, f k = some (g k)) → l.filterMap f = l.map g
  | [], _ => rfl
  | a :: l, h => by
    rw [List.filterMap_cons, h a (List.mem_cons_self ..), List.map_cons, fm_some f g l fun k hKk => h k (List.mem_cons_of_mem _ hKk)]
theorem rev_pick (xs : Array Value) : ((List.range xs.size).filterMap fun (k : Nat) => xs[(((xs.size : Int) - 1) + (k : Int) * (-1)).toNat]?).toArray = xs.toList.reverse.toArray := by
  congr 1
  rw [fm_some _ (fun k => xs.getD (xs.size - 1 - k) .none)]
  · apply List.ext_getElem?
    intro i
    by_cases hIi : i < xs.size
    · have hlt : xs.size - 1 - i < xs.size := by omega
      rw [List.getElem?_map, List.getElem?_range hIi, List.getElem?_reverse (by simpa using hIi)]
      simp [Array.getD, hlt]
    · rw [List.getElem?_eq_none (by simpa using hIi), List.getElem?_eq_none (by simpa using hIi)]
  · intro k hKk
    have hk' : k < xs.size := List.mem_range.mp hKk
    have eQ1 : (((xs.size : Int) - 1) + (k : Int) * (-1)).toNat = xs.size - 1 - k := by omega
    have hlt : xs.size - 1 - k < xs.size := by omega
    rw [eQ1, Array.getElem?_eq_getElem hlt]
    simp [Array.getD, hlt]
theorem adjust_rev (n : Nat) : Builtin.Slice.sliceAdjust none none (-1) (n : Int) = ((n : Int) - 1, -1) := by
  unfold Builtin.Slice.sliceAdjust
  simp
theorem places_rev (n : Nat) : Builtin.Slice.slicePlaces ((n : Int) - 1) (-1) (-1) = n := by
  unfold Builtin.Slice.slicePlaces
  have h1 : ¬ ((-1 : Int) > 0) := by omega
  simp only [h1, if_false]
  have h2 : -(-1 : Int) = 1 := rfl
  rw [h2, Int.ediv_one]
  split <;> omega
theorem sliceApplied_rev {sl : Addr} {vl vu vs : Value} {n : Nat} {Q : Int × Int × Nat → Shared → Prop} (hs : s.heap.IsSliceOf sl vl vu vs) (pl : IsPart vl none) (pu : IsPart vu none) (ps : IsPart vs (some (-1)))
    (h : Q ((n : Int) - 1, -1, n) s) : wpAny (model prog w) A (Builtin.Slice.sliceApplied (.ref sl) (pure (n : Int))) Q E s := by
  obtain ⟨os, hOs, hCs, hDs⟩ := id hs
  unfold Builtin.Slice.sliceApplied Builtin.Slice.sliceFields
  refine wpAny_bind (wpAny_bind (wpAny_field hOs hDs (x := vl) rfl (wpAny_bind (wpAny_field hOs hDs (x := vu) rfl (wpAny_bind (wpAny_field hOs hDs (x := vs) rfl (wpAny_pure ?_)))))))
  refine wpAny_bind (slicePart_ ps ?_)
  show wpAny _ _ (if ((-1 : Int) == 0) = true then _ else _) _ _ s
  rw [if_neg (by decide)]
  refine wpAny_bind (slicePart_ pl (wpAny_bind (slicePart_ pu (wpAny_bind (wpAny_pure ?_)))))
  show wpAny _ _ (match Builtin.Slice.sliceAdjust none none (-1) (n : Int) with | (lo, hIi) => pure (lo, (-1 : Int), Builtin.Slice.slicePlaces lo hIi (-1))) _ _ s
  rw [adjust_rev n]
  show wpAny _ _ (pure ((n : Int) - 1, (-1 : Int), Builtin.Slice.slicePlaces ((n : Int) - 1) (-1) (-1))) _ _ s
  rw [places_rev]
  exact wpAny_pure h
theorem getItem_tuple_rev {t sl : Addr} {items : Array Value} {vl vu vs : Value} {Q : Value → Shared → Prop} (ht : IsTup s.heap t items) (hs : s.heap.IsSliceOf sl vl vu vs) (pl : IsPart vl none) (pu : IsPart vu none) (ps : IsPart vs (some (-1)))
    (h : Q (.ref s.heap.objs.size) { s with heap := s.heap.push { cls := .type "tuple", data := .seq items.toList.reverse.toArray } })
    (hSz : items.size ≤ sizeLine) : wpAny (model prog w) A (getItem (.ref t) (.ref sl)) Q E s := by
  have hTake : sizeOk (.seq items.toList.reverse.toArray) := by
    show items.toList.reverse.toArray.size ≤ sizeLine
    simpa using hSz
  obtain ⟨os, hOs, hCs, hDs⟩ := id hs
  have hTys : s.TypeIs (.ref sl) "slice" := ⟨os, hOs, hCs⟩
  unfold getItem
  try with_reducible refine wpAny_holding ?_
  first | refine wpAny_bind (wpAny_pure ?_) | skip
  refine wpAny_bind (wpAny_sequenceKey ht.typeIs (by decide) ?_)
  refine wpAny_bind (wpAny_callSpecial?_slot (name := Str.ofString "__getitem__") ht.typeIs PyProof.Rows.slot_tuple_getitem
    (wpAny_call_entry PyProof.Rows.slot_tuple_getitem ht.typeIs entry_tuple_getitem ?_ (args_tuple_getitem _ _)))
  show wpAny _ _ (Builtin.Tuple.tupleItemsOf (.ref t) >>= _) _ _ s
  refine wpAny_bind (tupleItemsOf_ ht ?_)
  refine wpAny_bind (wpAny_typeOf hTys ?_)
  rw [if_pos (by decide)]
  refine wpAny_bind (sliceApplied_rev hs pl pu ps ?_)
  have hNo : ¬ ((((items.size : Int) - 1) == 0 && (-1 : Int) == 1 && items.size == items.size) = true) := by
    intro q
    rw [Bool.and_eq_true, Bool.and_eq_true] at q
    exact absurd q.1.2 (by decide)
  show wpAny _ _ (if (((items.size : Int) - 1) == 0 && (-1 : Int) == 1 && items.size == items.size) = true then _ else _) _ _ s
  rw [if_neg hNo, rev_pick]
  first
    | exact wpAny_bind (m := Builtin.Tuple.tupleExact _) (wpAny_newObj_type (wpAny_pure ⟨_, rfl, wpAny_pure h⟩) hTake)
    | exact wpAny_bind (m := Builtin.Tuple.tupleExact _) (wpAny_newObj_type (wpAny_bind (wpAny_pure (wpAny_pure ⟨_, rfl, wpAny_pure h⟩))) hTake)
    | exact wpAny_bind (wpAny_bind (m := Builtin.Tuple.tupleExact _) (wpAny_newObj_type (wpAny_pure (wpAny_pure ⟨_, rfl, wpAny_pure h⟩)) hTake))
    | exact wpAny_bind (wpAny_bind (m := Builtin.Tuple.tupleExact _) (wpAny_newObj_type (wpAny_pure ⟨_, rfl, wpAny_pure h⟩) hTake))
end
end HT
end
section
set_option linter.all false
set_option maxRecDepth 100000
namespace DL
open PySem PySem.Spec PyProof.Rows L2
theorem readOV {K : PySem.W.Frag} {f : FE} {σ : L2.St} {H : Hp} {Q : VK} (h : tX K .v f σ H Q) : tX K .o f σ H Q := by
  obtain ⟨ω, N, E, b, env, r, q⟩ := h
  exact ⟨ω, N, E, b, env, r, Tr.All_mono q fun d c qa v HA k1 o1 i1 => qa v HA k1 o1 (RK.ov i1 r.dom)⟩
def Glob (K : PySem.W.Frag) (mg : Str → Option Value) (x : Str) (d : D) : Prop := ∃ v u, mg x = some u ∧ RelV v u ∧ ∀ N H, In K N H v d
theorem xe_globD {X : Cx} {x : Str} {pos : Pos} {d : D} (hGg : Gl X x) (h : Glob X.K X.mg x d) (hdb : (x == ("__debug__" : Str)) = false := by decide) : XE X .v (.Name x pos) (eC d) := by
  obtain ⟨v, u, hMm, r, hDd⟩ := h
  exact xe_glob hGg hMm r hDd hdb
def tRevA (K : PySem.W.Frag) (te : TE) : TE := fun σ H Q => te σ H fun x HA => ∃ a xs, x = .ref a ∧ ((SqL K HA a xs ∧ ∀ p, HA p = none → Q (.ref p) (upd HA p (.lst xs.reverse))) ∨ (SqT K HA a xs ∧ QT Q HA xs.reverse))
theorem pe_revA {X : Cx} {e : Expr} {te : TE} {k : Nat} {p1 p2 p3 pos : Pos} (he : PE X e te) : PE X (.Subscript e (.Slice none none (some (.UnaryOp .USub (.Constant (.int 1) k p1) p2)) p3) pos) (tRevA X.K te) := by
  refine ⟨fun pnz s σ H Q I h => ?_⟩
  refine Subscript_ (thn (he.run pnz s σ H _ I h) fun v sA ⟨x, HA, IA, rA, qA⟩ => ?_)
  obtain ⟨a, xs, ex, hXx⟩ := qA
  subst ex
  cases rA
  have hSt : PO X (some (.UnaryOp .USub (.Constant (.int 1) k p1) p2)) (tPart (tUn (rU fun i => .int (-i)) (tC (.int 1)))) := po_some (pe_un un_neg pe_int)
  refine wpAny_Slice (thn (po_none.run pnz sA σ HA (fun o HB => o = none ∧ HB = HA) IA ⟨rfl, rfl⟩) fun vl sB ⟨l, HB, IB, pl, el, e2⟩ => ?_)
  subst el e2
  refine thn (po_none.run pnz sB σ HB (fun o H3 => o = none ∧ H3 = HB) IB ⟨rfl, rfl⟩) fun vu sC ⟨u, H3, IC, pu, eu, e3⟩ => ?_
  subst eu e3
  refine thn (hSt.run pnz sC σ H3 (fun o H4 => o = some (-1) ∧ H4 = H3) IC ⟨1, rfl, -1, rfl, rfl, rfl⟩) fun vs sD ⟨o, H4, ID, ps, eo, e4⟩ => ?_
  subst eo e4
  have IE : Inv X pnz σ H4 { sD with heap := sD.heap.push { cls := .type "slice", data := .fields #[vl, vu, vs] } } := ID.kept (t' := sD.toks) fun b ob q => Heap.get?_push_of_some _ q
  rcases hXx with ⟨hXx, q⟩ | ⟨hXx, q⟩
  · obtain ⟨itz, r, ht, hZz⟩ := IE.list hXx
    have hLen := r.length
    show wpAny (model X.prog X.w) X.A (subscriptTail e (.Slice none none (some (.UnaryOp .USub (.Constant (.int 1) k p1) p2)) p3) (.ref a) (.ref sD.heap.objs.size)) (EP X pnz σ Q) X.xe { sD with heap := sD.heap.push { cls := .type "slice", data := .fields #[vl, vu, vs] } }
    refine tail_any (ops := [.ref a, .ref sD.heap.objs.size]) ht.isList.typeIs (PySem.slot_list_getitem.lookup) ?_ (by with_unfolding_all rfl)
    refine wpAny_getItem_list_slice ht.isList (Heap.IsSliceOf.new _ vl vu vs) pl pu ps (by decide) ?_ (by rw [List.size_toArray]; omega)
    rw [PySem.W.krv_pick]
    refine ⟨.ref _, _, IE.laid (t' := sD.toks) (o := .lst xs.reverse) (fun b ob q => Heap.get?_push_of_some _ q) (Nat.le_refl _) ?_, rfl, q _ (IE.hok.fresh (Nat.le_refl _))⟩
    exact ⟨by rw [List.length_reverse]; exact hZz, _, 0, r.reverse, Heap.get?_push_size _ rfl⟩
  · obtain ⟨itz, r, ht, hZz⟩ := IE.tuple hXx
    have hLen := r.length
    show wpAny (model X.prog X.w) X.A (subscriptTail e (.Slice none none (some (.UnaryOp .USub (.Constant (.int 1) k p1) p2)) p3) (.ref a) (.ref sD.heap.objs.size)) (EP X pnz σ Q) X.xe { sD with heap := sD.heap.push { cls := .type "slice", data := .fields #[vl, vu, vs] } }
    refine tail_any (ops := [.ref a, .ref sD.heap.objs.size]) ht.typeIs (PyProof.Rows.slot_tuple_getitem.lookup) ?_ (by with_unfolding_all rfl)
    refine HT.getItem_tuple_rev ht (Heap.IsSliceOf.new _ vl vu vs) pl pu ps ?_ (by rw [List.size_toArray]; omega)
    exact q.at IE r.reverse (by rw [List.length_reverse]; exact hZz)
def dRev : D → Option D
  | .list ds => some (.list ds.reverse)
  | .tuple ds => some (.tuple ds.reverse)
  | _ => none
def eRev (f : FE) : FE := fun env => (f env).bind fun d => Tr.ofOpt (dRev d)
theorem InAll.rev {K : PySem.W.Frag} {N : Addr → Prop} {H : Hp} : ∀ {vs : List V} {ds : List D}, InAll K N H vs ds → InAll K N H vs.reverse ds.reverse
  | _, _, .nil => .nil
  | _, _, .cons h t => by
    rw [List.reverse_cons, List.reverse_cons]
    exact t.rev.append (.cons h .nil)
theorem xe_rev {X : Cx} {e : Expr} {f : FE} (h : PE X e (tRevA X.K (tX X.K .b f))) : XE X .v e (eRev f) := weak h fun σ H Q ⟨ω, N, E, b, env, r, q⟩ => by
  refine ⟨ω, N, E, b, env, r, Tr.All_mono ((Tr.All_bind _ _ _ _).mp q) fun d c qa v HA k1 o1 i1 => ?_⟩
  have i1 : InB X.K ω N HA v d := i1
  have dom1 : ∀ x, N x → HA x ≠ none := (r.move k1 o1).dom
  cases d with
  | list ds =>
    obtain ⟨a, xs, rfl, ha, h1⟩ := i1.list
    refine ⟨a, xs, rfl, .inl ⟨.inl (.inl ha), fun p hPp => qa _ _ (k1.trans (Keep.of (same_new hPp))) (o1.same (same_new hPp)) ?_⟩⟩
    exact .lst (fun z => dom1 p z hPp) upd_same (h1.rev.mono (fun _ z => .inl z) fun x o e _ => by rw [upd_ne (ne_of_none e hPp)]; exact e)
  | tuple ds =>
    obtain ⟨a, xs, rfl, ha, h1⟩ := i1.tuple
    exact ⟨a, xs, rfl, .inr ⟨ha, fun p o hPp od => qa _ _ (k1.trans (Keep.of (same_new hPp))) (o1.same (same_new hPp)) (In.newTup h1.rev hPp dom1 od)⟩⟩
  | _ => exact qa.elim
end DL
end
section
set_option linter.all false
set_option maxRecDepth 100000
namespace DL
open PySem PySem.Spec PyProof.Rows L2
def boolOf : D → Option Bool
  | .bool b => some b
  | _ => none
def dBools : List D → Option (List Bool)
  | [] => some []
  | d :: ds => match boolOf d, dBools ds with
    | some b, some bs => some (b :: bs)
    | _, _ => none
def dNums : List D → Option (List Int)
  | [] => some []
  | d :: ds => match intOf d, dNums ds with
    | some b, some bs => some (b :: bs)
    | _, _ => none
def dAll : List D → Option D
  | [.list ds] => (dBools ds).map fun bs => .bool (bs.all id)
  | _ => none
def maxI : Int → List Int → Int
  | m, [] => m
  | m, x :: xs => maxI (if m < x then x else m) xs
def dMax1 : List D → Option D
  | [.list ds] => (dNums ds).bind fun ns => match ns with | [] => none | n :: ns => some (.int (maxI n ns))
  | [.tuple ds] => (dNums ds).bind fun ns => match ns with | [] => none | n :: ns => some (.int (maxI n ns))
  | _ => none
section
variable {K : PySem.W.Frag} {N : Addr → Prop} {H : Hp}
theorem In.ofInt {v : V} {d : D} {n : Int} (h : In K N H v d) (e : intOf d = some n) : v = .int n := by
  cases d <;> first | (cases e; done) | skip
  cases e
  exact h.int_inv
theorem In.ofBool {v : V} {d : D} {n : Bool} (h : In K N H v d) (e : boolOf d = some n) : v = .bl n := by
  cases d <;> first | (cases e; done) | skip
  cases e
  exact h.bool_inv
theorem InAll.nums : ∀ {vs : List V} {ds : List D} {ns : List Int}, InAll K N H vs ds → dNums ds = some ns → vs = ns.map V.int
  | _, _, _, .nil, e => by cases e; rfl
  | _, _, ns, @InAll.cons _ _ _ v vs d ds h t, e => by
    unfold dNums at e
    split at e
    · rename_i b bs eQ1 e2
      cases e
      rw [h.ofInt eQ1, t.nums e2]
      rfl
    · cases e
theorem InAll.bools : ∀ {vs : List V} {ds : List D} {ns : List Bool}, InAll K N H vs ds → dBools ds = some ns → vs = ns.map V.bl
  | _, _, _, .nil, e => by cases e; rfl
  | _, _, ns, @InAll.cons _ _ _ v vs d ds h t, e => by
    unfold dBools at e
    split at e
    · rename_i b bs eQ1 e2
      cases e
      rw [h.ofBool eQ1, t.bools e2]
      rfl
    · cases e
end
section
variable {X : Cx}
theorem c_all (hCc : X.calm = true) : CallR X (.builtin "all") (rDn X.K dAll .v) := by
  intro pnz s σ H xs us Q I rx ⟨ω, N, ds, d, om, dom, hXx, hGg, k⟩
  match ds, hGg, hXx with
  | [.list es], hGg, hXx =>
    obtain ⟨v, rfl, h⟩ := InBs.one hXx
    obtain ⟨a, ys, rfl, ha, h1⟩ := h.list
    simp only [dAll] at hGg
    cases e : dBools es with
    | none => rw [e] at hGg; cases hGg
    | some bs =>
      rw [e] at hGg
      cases hGg
      have := h1.bools e
      subst this
      exact cr_all hCc pnz s σ H _ us Q I rx ⟨a, bs, rfl, .inl (.inl ha), k _ H (Same.refl H) (.bl _)⟩
section
variable {prog : Program} {w : World} {A : Around} {E : Value → Shared → Prop} {s : Shared}
open PySem
end
section
variable {prog : Program} {w : World} {A : Around} {E : Value → Shared → Prop} {s : Shared}
open HT PySem in
end
end
end DL
end
section
set_option linter.all false
set_option maxRecDepth 100000
namespace DL
open PySem PySem.Spec PyProof.Rows L2
section
variable {X : Cx} {k : Kd} {st : Stmt} {e : Expr} {pos : Pos}
/-- x[j], x[l] = e -/
def putIx (i : Nat) (env : Ev) (j d : D) : Option Ev := match env[i]? with
  | some (some (.own (.list ds))) => match j with
    | .int m => match ixN ds.length m with
      | some n => some (env.set i (some (.own (.list (ds.set n d)))))
      | none => none
    | _ => none
  | _ => none
def pairOf : D → Option (D × D)
  | .tuple [x, y] => some (x, y)
  | _ => none
theorem pairOf_some {d x y : D} (h : pairOf d = some (x, y)) : d = .tuple [x, y] := by
  unfold pairOf at h
  split at h
  · cases h; rfl
  · cases h
def isOwnL (env : Ev) (i : Nat) : Bool := match env[i]? with
  | some (some (.own (.list _))) => true
  | _ => false
theorem isOwnL_some {env : Ev} {i : Nat} (h : isOwnL env i = true) : ∃ ds, env[i]? = some (some (.own (.list ds))) := by
  unfold isOwnL at h
  split at h
  · rename_i ds hi; exact ⟨ds, hi⟩
  · cases h
def sSetIx2 (i : Nat) (fe fj fl : FE) : FS := fun env => if isOwnL env i = true then (fe env).bind fun d => match pairOf d with
  | some (x, y) => (fj env).bind fun j => match putIx i env j x with
    | some env1 => (fl env1).bind fun l => match putIx i env1 l y with
      | some env2 => .ret (.nx env2)
      | none => .fail
    | none => .fail
  | none => .fail
  else .fail
theorem putIx_some {i : Nat} {env env1 : Ev} {j d : D} (h : putIx i env j d = some env1) : ∃ ds m n, env[i]? = some (some (.own (.list ds))) ∧ j = .int m ∧ ixN ds.length m = some n ∧ env1 = env.set i (some (.own (.list (ds.set n d)))) := by
  unfold putIx at h
  split at h
  · rename_i ds hi
    cases j with
    | int m =>
      cases e : ixN ds.length m with
      | none => simp only [e] at h; cases h
      | some n =>
        simp only [e] at h
        cases h
        exact ⟨ds, m, n, hi, rfl, e, rfl⟩
    | _ => cases h
  · cases h
theorem one_put {K : PySem.W.Frag} {ω : Option Om} {N : Addr → Prop} {E H : Hp} {b : Nat} {env : Ev} {σ : L2.St} {i : Nat} {fj : FE} {d : D} {v : V} {Q : L2.St → Hp → Prop} {P : D → Nat → Prop} (r : RepE K ω N E H b env σ) (iv : In K N H v d)
    (hj : (fj env).All b P)
    (k : ∀ j c, P j c → ∃ env1, putIx i env j d = some env1 ∧ ∀ H2, RepE K ω N E H2 c env1 σ → Pres K N N H H2 → Q σ H2) (h0 : ∃ ds, env[i]? = some (some (.own (.list ds)))) : gSub (tVar i) (tX K .b fj) rSetL v σ H Q := by
  obtain ⟨ds, hi⟩ := h0
  obtain ⟨va, hs, a, rfl, na, no, ea, xs, ha, h1⟩ := r.slot i _ hi
  refine ⟨_, hs, ω, N, E, b, env, r, Tr.All_mono hj fun j c pj u H2 k2 o2 i2 => ?_⟩
  obtain ⟨env1, he, q⟩ := k j c pj
  obtain ⟨ds', m, n, hi', rfl, en, rfl⟩ := putIx_some he
  rw [hi] at hi'
  cases hi'
  have r2 := r.move k2 o2
  have ha2 : H2 a = some (.lst xs) := k2 _ _ ha no
  have h2 : InAll K N H2 xs ds := h1.keep r.om k2
  cases InB.int i2
  refine ⟨a, xs, m, n, rfl, rfl, ha2, by rw [h1.length]; exact en, ?_⟩
  refine q _ (r2.write hi hs na no ea ⟨xs.set n v, upd_same, ?_⟩) ((Pres.keep r.om k2).trans (pres_write na))
  exact (h2.set n (In.keep iv r.om k2)).mono (fun _ z => .inl z) fun x ob e n => by
    rw [upd_ne (fun z => n (by rw [z]; exact na))]
    exact e
theorem xs_setIx2 {i : Nat} {fe fj fl : FE} (h : PS X st (tAsg (tX X.K .v fe) (gTup X.K 2 (gCons (gSub (tVar i) (tX X.K .b fj) rSetL) (gCons (gSub (tVar i) (tX X.K .b fl) rSetL) gNil))))) : XS X k st (sSetIx2 i fe fj fl) := weakS h fun D' σ H ⟨ω, N0, N, E, b, env, r, n0, e0, q⟩ => by
  unfold sSetIx2 at q
  split at q
  case isFalse => exact q.elim
  rename_i ho
  have own1 := isOwnL_some ho
  refine ⟨ω, N, E, b, env, r, Tr.All_mono ((Tr.All_bind _ _ _ _).mp q) fun d c qa v H1 k1 o1 i1 => ?_⟩
  have r1 := r.move k1 o1
  split at qa
  case h_2 => exact qa.elim
  rename_i x y hp
  have hd := pairOf_some hp
  subst hd
  obtain ⟨a, xs, rfl, ha, h1⟩ := In.tuple_inv i1
  cases h1 with
  | cons hv1 h1 =>
    cases h1 with
    | cons hv2 h1 =>
      cases h1
      have qa := (Tr.All_bind _ _ _ _).mp qa
      refine ⟨a, _, rfl, ha, rfl, _, _, rfl, ?_⟩
      refine one_put r1 hv1 qa (fun j cj pj => ?_) own1
      cases e : putIx i env j x with
      | none => simp only [e] at pj; exact pj.elim
      | some env1 =>
        simp only [e] at pj
        refine ⟨env1, rfl, fun H2 r2 p2 => ⟨_, _, rfl, ?_⟩⟩
        have pj := (Tr.All_bind _ _ _ _).mp pj
        have own2 : ∃ ds, env1[i]? = some (some (.own (.list ds))) := by
          obtain ⟨ds, m, n, hi, _, _, rfl⟩ := putIx_some e
          exact ⟨_, List.getElem?_set_self (by have := List.getElem?_eq_some_iff.mp hi; obtain ⟨q, _⟩ := this; exact q)⟩
        refine one_put r2 (p2 _ _ hv2) pj (fun l cl pl => ?_) own2
        cases e2 : putIx i env1 l y with
        | none => simp only [e2] at pl; exact pl.elim
        | some env2 =>
          simp only [e2] at pl
          exact ⟨env2, rfl, fun H3 r3 p3 => ⟨rfl, pl N H3 σ r3 n0 (((Pres.keep r.om k1).trans p2).trans p3)⟩⟩
end
end DL
end
section
set_option linter.all false
set_option maxRecDepth 100000
namespace DL
open PySem PySem.Spec PyProof.Rows L2
def dRepr : List D → Option D
  | [d] => if d.showable = true ∧ d.hasDict = false ∧ d.depth ≤ 30 ∧ d.shown.length ≤ sizeLine then some (.str d.shown) else none
  | _ => none
section
variable {X : Cx}
theorem repr_any {pins : List (Addr × Obj)} {σ : L2.St} {H : Hp} {s : Shared} {Q : Value → Shared → Prop} {d : D} {u : Value} {as : List Addr} (r : Reads s.heap u d as) (hs : d.showable = true) (hn : d.hasDict = false) (hd : d.depth ≤ 30) (hz : d.shown.length ≤ sizeLine) (hgd : X.A.guards = some []) (hu : X.A.units + 64 < cLine)
    (h : ∀ h' t tk, (∀ b o, s.heap.get? b = some o → h'.get? b = some o) → Q (.str d.shown t) { s with heap := h', toks := tk }) : wpAny (model X.prog X.w) X.A (call (.builtin "repr") [u]) Q X.xe s := by
  cases r with
  | none => exact P.repr_of_none (h s.heap s.toks (s.toks + 1) fun _ _ e => e)
  | bool b =>
    refine P.repr_of_bool ?_
    have q := h s.heap s.toks (s.toks + 1) fun _ _ e => e
    cases b <;> simpa [PyData.shown] using q
  | int i t =>
    have e : (PyData.int i).shown = toString i := by simp [PyData.shown]
    rw [e] at h
    exact P.repr_of_int (by simpa [PyData.showable] using hs) (h s.heap s.toks (s.toks + 1) fun _ _ e => e)
  | str x t =>
    have e : (PyData.str x).shown = reprText x := by simp [PyData.shown]
    rw [e] at h hz
    exact P.repr_of_str (h s.heap s.toks (s.toks + 1) fun _ _ e => e) hz
  | list a b c d => exact repr_of_reads' (.list a b c d) hs (PyData.noDict_hsm hn) hgd (by omega) (fun _ _ e => e) (fun h' t tk hk => h h' t tk hk) hz
  | tuple a b c d => exact repr_of_reads' (.tuple a b c d) hs (PyData.noDict_hsm hn) hgd (by omega) (fun _ _ e => e) (fun h' t tk hk => h h' t tk hk) hz
  | dict a b c d e => simp [PyData.hasDict] at hn
theorem c_repr (hgd : X.A.guards = some []) (hu : X.A.units + 64 < cLine) : CallR X (.builtin "repr") (rDn X.K dRepr .v) := by
  intro pins s σ H xs us Q I rx ⟨ω, N, ds, d, om, dom, hx, hg, k⟩
  match ds, hg, hx with
  | [d], hg, hx =>
    obtain ⟨v, rfl, h⟩ := InBs.one hx
    simp only [dRepr] at hg
    split at hg
    case isFalse => cases hg
    rename_i hc
    cases hg
    obtain ⟨u, rfl, rv⟩ := vals1 rx
    obtain ⟨as, rr⟩ := Dp.reads I d v u (h.dp hc.2.1) rv
    refine repr_any (pins := pins) (σ := σ) (H := H) rr hc.1 hc.2.1 hc.2.2.1 hc.2.2.2 hgd hu fun h' t tk hk => ⟨.str d.shown, H, I.kept hk, ⟨t, rfl⟩, k _ H (Same.refl H) (.str _)⟩
end
theorem xe_revE {X : Cx} {e : Expr} {f : FE} {k : Nat} {p1 p2 p3 pos : Pos} (he : XE X .b e f) : XE X .v (.Subscript e (.Slice none none (some (.UnaryOp .USub (.Constant (.int 1) k p1) p2)) p3) pos) (eRev f) := xe_rev (pe_revA he)
end DL
end
section
set_option linter.all false
set_option maxRecDepth 100000
namespace DL
open PySem PySem.Spec PyProof.Rows L2
theorem fnG_raw {P : Program} {w : World} {K : PySem.W.Frag} {mg : Str → Option Value} {base : Heap} {x qual : Str} {st : Stmt} {f : Addr} {fd : FuncData} {Ns ps : List Str} {m : Nat} {sp : Sp} (F : Fun K x qual st f fd) (S : FnScope Ns ps (defScope st)) (len : ∀ vs H Q E, sp vs H Q E → vs.length = ps.length)
    (hbody : ∀ (cdv : Value) (A : Around) (outer : List Env) (s : Shared) (H : Hp) (vs : List V) (Q : VK) (E : XK), Room m (A.deeper (envOfC qual (defScope st) s.heap.objs.size f cdv)) → A.guards = some [] → sp vs H Q E →
      ∃ t, PSs (cxOf CX0 P w K mg base Ns qual (defScope st) f cdv A outer s H E).nox (defBody st) t ∧ t { nx := fun _ H' => Q .non H', rt := Q } (L2.start Ns vs) H) : FnG P w K mg base (m + 1) f fd ps sp := by
  obtain ⟨oc, od, kV, doc, pm, an, cdv, ct, osl, rfl, lk, hcd⟩ := F.ex
  refine ⟨len, fun {A} hg hr {outer s H args us vs Q E} e0 hb hv hs => LamX.run_ofS lk hcd S hr e0 hb hv (len _ _ _ _ hs) fun hr' => ?_⟩
  obtain ⟨t, h, q⟩ := hbody cdv A outer s H vs Q E hr' hg hs
  exact ⟨t, h.nox, q⟩
theorem spD_len {K : PySem.W.Frag} {k : Kd} {n : Nat} {F : List Slot → Tr D} {vs : List V} {H : Hp} {Q : VK} {E : XK} (h : spD K k n F vs H Q E) : vs.length = n := by
  obtain ⟨ω, N, b, ss, hl, om, dom, ⟨orc, tb⟩, h, q⟩ := h
  exact h.length.symm.trans hl
theorem pe_callG {X : Cx} {e : Expr} {es : List Expr} {pos p : Pos} {x : Str} {j : Nat} {ps : List Str} {sp : Sp} {t : TA} (C : Cal X.prog X.w X.K X.mg X.base x j ps sp) (hr : Room j X.A) (hgd : X.A.guards = some []) (hg : Gl X x) (ha : PA X (e :: es) t)
    (hdb : (x == ("__debug__" : Str)) = false := by decide) (he : starEach (e :: es) X.env = (false, eval e X.env) :: starEach es X.env := by rfl) (hpl : (backTo pos (starEach es X.env)).any (·.1) = false := by rfl) : PE X (.Call (.Name x p) (e :: es) [] pos) (fun σ H Q => t σ H fun vs H1 => sp vs H1 Q E0) := by
  obtain ⟨f, fd, G, hb, hm, hk⟩ := C.ex
  refine ⟨fun pins s σ H Q I h => wpAny_Call_Name_kw (ld_glob I hg hm (PySem.W.callWith_K (h₀ := X.base) I.ok.mod.kin hk (thn (ha.run pos pins s σ H _ I h) fun us s1 ⟨vs, H1, I1, rv, q⟩ => ⟨I1.kIn, ?_⟩) he hpl) hdb)⟩
  exact G.call hgd hr hb I1 rv q
end DL
end
section
set_option maxRecDepth 100000
namespace DL
open PySem PySem.Spec PyProof.Rows L2
def kvO (c g : Addr) (n : Int) : List (Key × V) := [(.inr "cells", .ref c), (.inr "great", .ref g), (.inr "spot", .int n)]
theorem kvO_cells {c g : Addr} {n : Int} : valV (kvO c g n) (.inr "cells") = some (.ref c) := rfl
theorem kvO_great {c g : Addr} {n : Int} : valV (kvO c g n) (.inr "great") = some (.ref g) := rfl
theorem kvO_spot {c g : Addr} {n : Int} : valV (kvO c g n) (.inr "spot") = some (.int n) := rfl
theorem kvO_put {c g : Addr} {n m : Int} : putK (kvO c g n) (.inr "spot") (.int m) = kvO c g m := rfl
/-- the drawing state with its parts told -/
structure OrcP (w : Om) (cells great : List Int) (n : Int) (b : Nat) (H : Hp) : Prop where
  dict : H w.a = some (.dK (kvO w.c w.g n))
  cel : H w.c = some (.lst (cells.map V.int))
  gre : H w.g = some (.lst (great.map V.int))
  len : cells.length = 64
  cb : ∀ x ∈ cells, 0 ≤ x ∧ x < 2147483647
  gl : great.length ≤ 63
  gb : ∀ x ∈ great, 0 ≤ x ∧ x.natAbs < 2 ^ 1048577
  n0 : 0 ≤ n
  nb : n + b ≤ 2 ^ 40
  ne : w.c ≠ w.g
  tab : LamX.Tabs w.tb H
theorem Orc.parts {w : Om} {b : Nat} {H : Hp} (h : Orc w b H) : ∃ cells great n, OrcP w cells great n b H := by
  obtain ⟨h0, cells, great, n, h1, h2, h3, h4, h5, h6, h7, h8, h9, h10⟩ := h
  exact ⟨cells, great, n, h1, h2, h3, h4, h5, h6, h7, h8, h9, h10, h0⟩
theorem OrcP.orc {w : Om} {cells great : List Int} {n : Int} {b : Nat} {H : Hp} (h : OrcP w cells great n b H) : Orc w b H :=
  ⟨h.tab, cells, great, n, h.dict, h.cel, h.gre, h.len, h.cb, h.gl, h.gb, h.n0, h.nb, h.ne⟩
theorem OrcP.acNe {w : Om} {cells great : List Int} {n : Int} {b : Nat} {H : Hp} (h : OrcP w cells great n b H) : w.a ≠ w.c := fun e => by
  have := h.dict
  rw [e, h.cel] at this
  cases this
theorem OrcP.agNe {w : Om} {cells great : List Int} {n : Int} {b : Nat} {H : Hp} (h : OrcP w cells great n b H) : w.a ≠ w.g := fun e => by
  have := h.dict
  rw [e, h.gre] at this
  cases this
theorem tabs_upd {T : List (Addr × Str)} {H : Hp} {a : Addr} {o o0 : HO} (h : LamX.Tabs T H) (ha : H a = some o0) (n1 : ∀ ps, o0 ≠ .tbl ps) (n2 : ∀ c q, o0 ≠ LamX.CodeO c q) : LamX.Tabs T (upd H a o) := fun p mp => by
  obtain ⟨qs, q1, q2, q3⟩ := h p mp
  refine ⟨qs, (upd_ne fun z => ?_).trans q1, q2, fun p' cv got => ?_⟩
  · rw [z, ha] at q1
    exact n1 qs (Option.some.inj q1)
  · obtain ⟨c0, e1, e2⟩ := q3 p' cv got
    refine ⟨c0, e1, (upd_ne fun z => ?_).trans e2⟩
    rw [z, ha] at e2
    exact n2 _ _ (Option.some.inj e2)
theorem OrcP.step {w : Om} {cells great : List Int} {n : Int} {b : Nat} {H : Hp} (h : OrcP w cells great n (b + 1) H) : OrcP w cells great (n + 1) b (upd H w.a (.dK (kvO w.c w.g (n + 1)))) where
  dict := upd_same
  cel := by rw [upd_ne (Ne.symm h.acNe)]; exact h.cel
  gre := by rw [upd_ne (Ne.symm h.agNe)]; exact h.gre
  len := h.len
  cb := h.cb
  gl := h.gl
  gb := h.gb
  n0 := by have := h.n0; omega
  nb := by have := h.nb; omega
  ne := h.ne
  tab := tabs_upd h.tab h.dict (fun ps z => by cases z) fun c q z => by
    have z' : HO.dK _ = HO.ext _ := z
    cases z'
theorem OrcP.same {w : Om} {cells great : List Int} {n : Int} {b : Nat} {H H' : Hp} (h : OrcP w cells great n b H) (s : Same H H') : OrcP w cells great n b H' :=
  ⟨s _ _ h.dict, s _ _ h.cel, s _ _ h.gre, h.len, h.cb, h.gl, h.gb, h.n0, h.nb, h.ne, h.tab.ext s⟩
theorem OrcP.less {w : Om} {cells great : List Int} {n : Int} {b : Nat} {H : Hp} (h : OrcP w cells great n b H) {j : Nat} {x : Int} (hx : 0 ≤ x ∧ x.natAbs < 2 ^ 1048577) : OrcP w cells (great.set j x) n b (upd H w.g (.lst ((great.set j x).map V.int))) where
  dict := by rw [upd_ne h.agNe]; exact h.dict
  cel := by rw [upd_ne h.ne]; exact h.cel
  gre := upd_same
  len := h.len
  cb := h.cb
  gl := by rw [List.length_set]; exact h.gl
  gb := fun y hy => by
    rcases List.mem_or_eq_of_mem_set hy with hy | rfl
    · exact h.gb y hy
    · exact hx
  n0 := h.n0
  nb := h.nb
  ne := h.ne
  tab := tabs_upd h.tab h.gre (fun ps z => by cases z) fun c q z => by
    have z' : HO.lst _ = HO.ext _ := z
    cases z'
def fDraw : List Slot → Tr D
  | [.orc, .val (.int l)] => if 1 ≤ l ∧ l < 1073741824 then .draw l.toNat fun i => .ret (.int (i : Nat)) else .fail
  | _ => .fail
end DL
end
section
set_option linter.all false
set_option maxRecDepth 100000
namespace DL
open PySem PySem.Spec PyProof.Rows L2
def dPow : D → D → Option D
  | .int i, .int j => if 0 ≤ j ∧ j ≤ 1000 ∧ i.natAbs < 2 ^ 64 then some (.int (i ^ j.toNat)) else none
  | _, _ => none
theorem o_pow {X : Cx} : OpR X (binaryOp .Pow) (rD2 X.K dPow .v) := by
  intro pins s σ H x y v u Q I rx ry ⟨ω, N, d, e, z, om, dom, hx, hy, hg, k⟩
  cases d <;> cases e <;> first | (cases hg; done) | skip
  cases hx.int
  cases hy.int
  simp only [dPow] at hg
  split at hg
  · cases hg
    rename_i hz
    exact op_pow pins s σ H _ _ v u Q I rx ry ⟨_, _, rfl, rfl, ⟨hz.1, by omega, hz.2.2⟩, k _ H (Same.refl H) (.int _)⟩
  · cases hg
theorem forD_inv {tgt : FG} {body : FS} (I : Ev → Prop) : ∀ (ds : List D) (env : Ev), I env → (∀ d ∈ ds, ∀ env, I env → ∃ env1 env2, tgt d env = some env1 ∧ body env1 = .ret (.nx env2) ∧ I env2) → ∃ env', forD tgt body ds env = .ret (.nx env') ∧ I env'
  | [], env, h, _ => ⟨env, rfl, h⟩
  | d :: ds, env, h, k => by
    obtain ⟨e1, e2, h1, h2, h3⟩ := k d (List.mem_cons_self ..) env h
    obtain ⟨e3, h4, h5⟩ := forD_inv I ds e2 h3 fun d hd => k d (List.mem_cons_of_mem _ hd)
    refine ⟨e3, ?_, h5⟩
    unfold forD
    rw [h1]
    simp only [h2, Tr.bind]
    exact h4
end DL
end
section
set_option linter.all false
set_option maxRecDepth 100000
namespace DL
open PySem PySem.Spec PyProof.Rows L2
structure CalK (P : Program) (w : World) (K : PySem.W.Frag) (mg : Str → Option Value) (base : Heap) (x : Str) (j : Nat) (ps : List Str) (g : List Value → List Value) (gV : List V → List V) (sp : Sp) (ks : List Str) : Prop where
  ex : ∃ f fd, FnG P w K mg base j f fd ps sp ∧ (∀ (s : Shared) (ws : List Value), K.In s.heap → (g ws).length = ps.length → BindsTo s fd ⟨[], ks.zip ws⟩ (ps.zip (g ws))) ∧ (∀ {zs : List V} {ws : List Value}, Vals zs ws → Vals (gV zs) (g ws)) ∧ mg x = some (.ref f) ∧ PySem.W.keepIn K (.ref f) = true
theorem pe_callGK {X : Cx} {pos p : Pos} {x : Str} {j : Nat} {ps ks : List Str} {sp : Sp} {tk : TA} {kws : List Keyword} {g : List Value → List Value} {gV : List V → List V} (C : CalK X.prog X.w X.K X.mg X.base x j ps g gV sp ks) (hr : Room j X.A) (hgd : X.A.guards = some []) (hGg : Gl X x) (hkw : PK X kws tk)
    (hall : (backToKw pos (keywordEach kws X.env)).all (·.1.isSome) = true := by rfl) (hks : (backToKw pos (keywordEach kws X.env)).filterMap (·.1) = ks := by rfl) (hdb : (x == ("__debug__" : Str)) = false := by decide)
    (hpl : ((backTo pos (starEach [] X.env)).any (·.1) || (backToKw pos (keywordEach kws X.env)).any (·.1.isNone)) = false := by rfl) : PE X (.Call (.Name x p) [] kws pos) (fun σ H Q => tk σ H fun zs HA => sp (gV zs) HA Q E0) := by
  obtain ⟨f, fd, G, hb, hrel, hMm, hKk⟩ := C.ex
  refine ⟨fun pnz s σ H Q I h => ?_⟩
  refine wpAny_Call_Name_kw (ld_glob I hGg hMm ?_ hdb)
  refine PySem.W.callWith_KW0 (h₀ := X.base) I.ok.mod.kin hKk hall (thn (hkw.run pos pnz s σ H _ I h) fun ws sA ⟨zs, HA, IA, rz, q⟩ => ⟨IA.kIn, ?_⟩) hpl
  rw [hks]
  have rVs := hrel rz
  have hLen : (g ws).length = ps.length := by rw [← rVs.length]; exact G.len _ _ _ _ q
  refine wpAny_call (codeAny_mono (G.go hgd hr IA.env0 (hb sA ws IA.kIn hLen) rVs q) fun out sB fin => ?_)
  match out, fin with
  | .error ex, fin => exact pass0 pnz σ HA sA ex sB IA fin
  | .ok (.ret u), fin => exact IA.after fin
section
variable {X : Cx}
theorem weakK {es : List Keyword} {t t' : TA} (h : PK X es t) (k : ∀ σ H Q, t' σ H Q → t σ H Q) : PK X es t' := ⟨fun p pnz s σ H Q I q => h.run p pnz s σ H Q I (k σ H Q q)⟩
theorem xk_nil : PK X [] (tAs X.K aNil) := weakK pk_nil fun σ H Q ⟨ω, N, E, b, env, r, q⟩ => q [] H Keep.refl r.orc .nil
theorem xk_val {nm : Option Str} {e : Expr} {kpos : Pos} {kws : List Keyword} {f : FE} {r : FA} (h : XE X .v e f) (hr : PK X kws (tAs X.K r)) : PK X (⟨nm, e, kpos⟩ :: kws) (tAs X.K (aVal f r)) := weakK (pk_cons h hr) fun σ H Q ⟨ω, N, E, b, env, r, q⟩ => by
  refine ⟨ω, N, E, b, env, r, Tr.All_mono ((Tr.All_bind _ _ _ _).mp q) fun d c qa v HA k1 o1 i1 => ?_⟩
  refine ⟨ω, N, E, c, env, r.move k1 o1, Tr.All_mono ((Tr.All_bind _ _ _ _).mp qa) fun ss c2 qb vs HB k2 o2 i2 => ?_⟩
  exact qb (v :: vs) HB (k1.trans k2) o2 (.cons (In.keep i1 r.om k2) i2)
/-- f(a = e, ..), in the order of the parameters -/
theorem xe_callK {pos p : Pos} {x : Str} {j n : Nat} {ps ks : List Str} {F : List Slot → Tr D} {k : Kd} {r : FA} {kws : List Keyword} (C : CalK X.prog X.w X.K X.mg X.base x j ps id id (spD X.K k n F) ks) (hr : Room j X.A) (hgd : X.A.guards = some []) (hGg : Gl X x) (hkw : PK X kws (tAs X.K r)) (hNn : ArgN r n)
    (hall : (backToKw pos (keywordEach kws X.env)).all (·.1.isSome) = true := by rfl) (hks : (backToKw pos (keywordEach kws X.env)).filterMap (·.1) = ks := by rfl) (hdb : (x == ("__debug__" : Str)) = false := by decide)
    (hpl : ((backTo pos (starEach [] X.env)).any (·.1) || (backToKw pos (keywordEach kws X.env)).any (·.1.isNone)) = false := by rfl) : XE X k (.Call (.Name x p) [] kws pos) (eCall F r) :=
  weak (pe_callGK C hr hgd hGg hkw hall hks hdb hpl) fun σ H Q h => by
  have q := readF hNn h
  obtain ⟨ω, N, E, b, env, r, q⟩ := q
  exact ⟨ω, N, E, b, env, r, Tr.All_mono q fun ss c qa vs HA k1 o1 i1 => by simpa using qa vs HA k1 o1 i1⟩
end
end DL
end
section
set_option linter.all false
set_option maxRecDepth 100000
namespace DL
open PySem PySem.Spec PyProof.Rows L2
def distinct (ns : List Int) : List Int := ns.foldl step_dedup []
def dLenSet : D → Option D
  | .list ds => (dNums ds).bind fun ns => if ns.length ≤ 4000 then some (.int ((distinct ns).length : Nat)) else none
  | .tuple [] => some (.int (0 : Nat))
  | _ => none
end DL
end
section
set_option linter.all false
set_option maxRecDepth 100000
namespace DL
open PySem PySem.Spec PyProof.Rows L2
def tyN : D → Option String
  | .dict ((.none, _) :: _) => none
  | .dict ((.tuple _, _) :: _) => none
  | .dict _ => some "dict"
  | d => tyName d
def isiB (n T : String) : Bool := n == T || (n == "bool" && T == "int")
def eIsi (T : String) (f : FE) : FE := fun env => (f env).bind fun d => match tyN d with
  | some n => .ret (.bool (isiB n T))
  | none => .fail
end DL
end
section
set_option linter.all false
set_option maxRecDepth 100000
namespace DL
open PySem PySem.Spec PyProof.Rows L2
section
variable {P : Program} {w : World} {K : PySem.W.Frag} {mg mb : Str → Option Value} {k : Nat} {fa a : Addr} {fd : FuncData} {x : Str} {sp : Sp} {st : Shared} {vs : List Value} {ns : List Int}
/-- all that is tracked is a list that the written part does not know, and that stays -/
def Froz (K : PySem.W.Frag) (h : Heap) (H : Hp) : Prop := ∀ b u, H b = some u → ∃ (ob : Obj) (xs : List V) (its : Array Value) (n : Nat), u = .frz ob (.lst xs) ∧ h.get? b = some ob ∧ ob.data = .seq its n ∧ K.lookup b = none
theorem top_run (kin : K.In st.heap) (globs : st.heap.Ns mainGlobals mg) (blts : st.heap.Ns builtinsNs mb) (isBoot : ∀ y : Str, y ≠ "__name__" → mb y = bootBuiltins y) (unl : st.heap.NoLimit) (nog : st.gens = #[]) (hr : Room k callerA)
    (G : ∀ base : Heap, K.In base → base.Ns mainGlobals mg → FnG P w K mg base k fa fd [x] sp) (bnd : ∀ (s : Shared) (u : Value), BindsTo s fd ⟨[u], []⟩ [(x, u)])
    (H : Hp) (fz : Froz K st.heap H) (ok : HOk P w H st.heap) (want : sp [.ref a] H (fun v _ => v = .bl true) E0) :
    codeAny (model P w) callerA (.call (.ref fa) ⟨[.ref a], []⟩) (fun r s' => r = .ok (.ret (.bool true)) ∧ OldK st.heap s'.heap ∧ s'.os = st.os ∧ AllBare s'.gens) st := by
  have free : ∀ {b : Addr} {o : Obj} {es : Array DictEntry} {ep : Nat}, st.heap.get? b = some o → o.data = .dict es ep → H b = none := fun {b o es ep} hb hd => by
    match hq : H b with
    | none => rfl
    | some u =>
      obtain ⟨ob, xs, its, n, _, h1, h2, _⟩ := fz b u hq
      rw [hb] at h1
      cases h1
      rw [hd] at h2
      cases h2
  have toBase : ∀ {L : Addr} {m : Str → Option Value}, st.heap.Ns L m → (hidT st.heap H).Ns L m := fun ⟨o, es, ep, h1, h2, h3⟩ => ⟨o, es, ep, hidT_get h1 (free h1 h2), h2, h3⟩
  have kb : K.In (hidT st.heap H) := fun b o hb => hidT_get (kin b o hb) (by
    match hq : H b with
    | none => rfl
    | some u =>
      obtain ⟨_, _, _, _, _, _, _, h3⟩ := fz b u hq
      rw [h3] at hb
      cases hb)
  have md : Mod K mg (hidT st.heap H) := {
    kin := kb
    glob := toBase globs
    blt := ⟨mb, toBase blts, isBoot⟩
    nolimit := by
      obtain ⟨m, h1, h2⟩ := unl
      exact ⟨m, toBase h1, h2⟩ }
  have en : Env0 P w K mg (hidT st.heap H) callerA [] st H := {
    frames := rfl
    mod := md
    bs := fun _ _ h => of_hidT h
    bsz := Nat.le_of_eq (hidT_size _ _)
    funs := trivial
    frf := fun b hb => nomatch (show b ∈ ([] : List Addr) from hb)
    hok := ok
    bare := .of_eq nog }
  refine codeAny_mono ((G _ kb (toBase globs)).go (us := [.ref a]) (vs := [.ref a]) rfl hr en (bnd st (.ref a)) (.cons rfl .nil) want) fun out s2 fin => ?_
  match out, fin with
  | .ok (.ret u), fin =>
    obtain ⟨v, H2, h1, h2, un, ok2, rv, q⟩ := fin
    have q : v = .bl true := q
    subst q
    cases (show u = Value.bool true from rv)
    refine ⟨rfl, OldK.of_keep fun b o hb => ?_, h1, h2⟩
    match hq : H b with
    | none => exact un.keep b o hb hq (fun z => nomatch (show b ∈ ([] : List Addr) from z)) (fun z => nomatch z)
    | some u =>
      obtain ⟨ob, xs, _, _, rfl, h3, _, _⟩ := fz b u hq
      rw [hb] at h3
      cases h3
      exact (ok2 b _ (un.frzs b o _ hq)).1
end
end DL
end
section
set_option linter.all false
set_option maxRecDepth 100000
namespace DL
open PySem PySem.Spec PyProof.Rows L2
section
variable {P : Program} {w : World} {K : PySem.W.Frag} {mg : Str → Option Value} {base : Heap}
theorem dMul_l {i j : Int} (h : -(2 ^ 64) < i ∧ i < 2 ^ 64) : dMul (.int i) (.int j) = some (.int (i * j)) := if_pos (.inl h)
theorem dMul_r {i j : Int} (h : -(2 ^ 64) < j ∧ j < 2 ^ 64) : dMul (.int i) (.int j) = some (.int (i * j)) := if_pos (.inr h)
theorem dMod_p {i j : Int} (h : 0 < j) : dMod (.int i) (.int j) = some (.int (i % j)) := if_pos h
theorem dDiv_p {i j : Int} (h : 0 < j ∧ j < 1073741824) : dDiv (.int i) (.int j) = some (.int (i / j)) := if_pos h
theorem dAddA_i {i j : Int} : dAddA (.int i) (.int j) = some (.int (i + j)) := rfl
theorem at_intsD (xs : List Int) {i : Int} (h0 : 0 ≤ i) (h1 : i < xs.length) : ∃ x, atI (xs.map PyData.int) i = some (.int x) ∧ x ∈ xs := by
  obtain ⟨j, rfl⟩ := Int.eq_ofNat_of_zero_le h0
  have hj : j < xs.length := by omega
  refine ⟨xs[j], atI_nat ?_, List.getElem_mem hj⟩
  rw [List.getElem?_map, List.getElem?_eq_getElem hj]
  rfl
theorem ixN_ok {n : Nat} {i : Int} (h0 : 0 ≤ i) (h1 : i < n) : ixN n i = some i.toNat := by
  unfold ixN
  rw [if_pos h0, if_pos h1]
def Cells (xs : List Int) : Prop := xs.length = 64 ∧ ∀ x ∈ xs, 0 ≤ x ∧ x < 2147483647
theorem Cells.set {xs : List Int} (h : Cells xs) (j : Nat) (z : Int) : Cells (xs.set j (z % 2147483647)) := by
  refine ⟨by rw [List.length_set]; exact h.1, fun y hy => ?_⟩
  rcases List.mem_or_eq_of_mem_set hy with hy | rfl
  · exact h.2 y hy
  · exact ⟨Int.emod_nonneg _ (by decide), Int.emod_lt_of_pos _ (by decide)⟩
def FI (S : D) (env : Ev) : Prop := ∃ cells d2 d3, env = [some (.val S), some (.own (.list (cells.map PyData.int))), d2, d3] ∧ Cells cells
theorem pairs_ints : ∀ (ns : List Int) (i : Nat), ∀ d ∈ pairsFrom i (ns.map PyData.int), ∃ k z : Int, 0 ≤ k ∧ d = .tuple [.int k, .int z]
  | [], _, d, h => nomatch h
  | n :: ns, i, d, h => by
    rw [List.map_cons, pairsFrom] at h
    rcases List.mem_cons.mp h with rfl | h
    · exact ⟨i, n, by omega, rfl⟩
    · exact pairs_ints ns (i + 1) d h
def first64 : List Int := (List.range 64).map fun (n : Nat) => 17 + (n : Int)
theorem first_cells : Cells first64 := by
  refine ⟨by unfold first64; rw [List.length_map, List.length_range], fun x hx => ?_⟩
  obtain ⟨n, hn, rfl⟩ := List.mem_map.mp hx
  have := List.mem_range.mp hn
  omega
theorem at_ints (xs : List Int) {i : Int} (h0 : 0 ≤ i) (h1 : i < xs.length) : ∃ x, atI (xs.map V.int) i = some (V.int x) ∧ x ∈ xs := by
  obtain ⟨j, rfl⟩ := Int.eq_ofNat_of_zero_le h0
  have hj : j < xs.length := by omega
  refine ⟨xs[j], atI_nat ?_, List.getElem_mem hj⟩
  rw [List.getElem?_map, List.getElem?_eq_getElem hj]
  rfl
theorem dp_ints {H : Hp} : ∀ xs : List Int, DpAll K H (xs.map V.int) (xs.map PyData.int)
  | [] => .nil
  | x :: xs => .cons (.int x) (dp_ints xs)
theorem canLay_ints : ∀ xs : List Int, PyData.canLayAll0 (xs.map PyData.int) = true
  | [] => rfl
  | x :: xs => by
    rw [List.map_cons, PyData.canLayAll0, canLay_ints xs]
    rfl
theorem depth_ints : ∀ xs : List Int, PyData.depthAll (xs.map PyData.int) = 0
  | [] => rfl
  | x :: xs => by
    rw [List.map_cons, PyData.depthAll, depth_ints xs]
    rfl
theorem shaped_ints (xs : List Int) : SeqAt.shaped (.list (xs.map PyData.int)) = true := by
  unfold SeqAt.shaped
  rw [PyData.canLay0, canLay_ints, PyData.depth, depth_ints]
  rfl
def bigs (ns : List Int) : List Int := ns.map fun z => if 10 ^ 18 ≤ z then z else 0
theorem in_ints {N : Addr → Prop} {H : Hp} : ∀ xs : List Int, InAll K N H (xs.map V.int) (xs.map PyData.int)
  | [] => .nil
  | x :: xs => .cons (.int x) (in_ints xs)
theorem ints_in {N : Addr → Prop} {H : Hp} {vs : List V} : ∀ {xs : List Int}, InAll K N H vs (xs.map PyData.int) → vs = xs.map V.int := fun {xs} => by
  induction xs generalizing vs with
  | nil => intro h; cases h; rfl
  | cons x xs ih =>
    intro h
    cases h with
    | cons h t =>
      rw [ih t, In.int_inv h]
      rfl
theorem resl {ω : Option Om} {N : Addr → Prop} {E H : Hp} {b : Nat} {env : Ev} {σ σ' : L2.St} (r : RepE K ω N E H b env σ) (hl : σ'.length = σ.length) (h : ∀ (i : Nat) (s : DL.Slot), env[i]? = some (some s) → σ'[i]? = σ[i]?) : RepE K ω N E H b env σ' where
  len := by rw [hl]; exact r.len
  slot := fun i s e => by rw [h i s e]; exact r.slot i s e
  sep := fun i j di dj a n e1 e2 s1 s2 => r.sep i j di dj a n e1 e2 (by rw [← h i _ e1]; exact s1) (by rw [← h j _ e2]; exact s2)
  dom := r.dom
  om := r.om
  orc := r.orc
  keep := r.keep
  tb := r.tb
theorem big_bound {ns : List Int} (hb : ∀ z ∈ ns, z.natAbs < 2 ^ 1048577) : ∀ x ∈ bigs ns, 0 ≤ x ∧ x.natAbs < 2 ^ 1048577 := fun x hx => by
  unfold bigs at hx
  obtain ⟨z, hz, rfl⟩ := List.mem_map.mp hx
  by_cases h : (10 ^ 18 : Int) ≤ z
  · rw [if_pos h]
    exact ⟨by omega, hb z hz⟩
  · rw [if_neg h]
    exact ⟨Int.le_refl _, Nat.two_pow_pos _⟩
theorem tX_ret {kd : Kd} {f : FE} {σ : L2.St} {H E : Hp} {Q : VK} {ω : Option Om} {N : Addr → Prop} {b : Nat} {env : Ev} {d : D} (r : RepE K ω N E H b env σ) (e : f env = .ret d) (h : ∀ v H', Keep ω H H' → OrcO ω b H' → RK K ω N H H' kd v d → Q v H') : tX K kd f σ H Q :=
  ⟨ω, N, E, b, env, r, by rw [e]; exact h⟩
theorem call1 {F : List Slot → Tr D} {d : D} {env : Ev} : eCall F (aVal (eVar 0) aNil) (some (.val d) :: env) = F [.val d] := rfl
theorem start3 {d : D} : startE 3 [.val d] = [some (.val d), none, none] := rfl
theorem seqAsg {te : TE} {i : Nat} {u : TS} {D : Ends} {σ : L2.St} {H : Hp} (h : te σ H fun x H1 => u D (σ.set i (some x)) H1) : tSeq (tAsg te (gName i)) u D σ H := h
theorem seqPut {td ty tv : TE} {u : TS} {D : Ends} {σ : L2.St} {H : Hp} (h : tv σ H fun v H1 => td σ H1 fun x H2 => ty σ H2 fun y H3 => ∃ a H4, x = .ref a ∧ DPut H3 a y v H4 ∧ u D σ H4) : tSeq (sDPut td ty tv) u D σ H := h
theorem disp3 {a b c : Str} {t1 t2 t3 : TE} {σ : L2.St} {H : Hp} {Q : VK} (h : ∀ p, H p = none → t1 σ (upd H p (.dK [])) fun v1 H1 => t2 σ H1 fun v2 H2 => t3 σ H2 fun v3 H3 => H3 p = some (.dK []) ∧
    ∃ kvs : List (Key × V), [(V.str a, v1), (V.str b, v2), (V.str c, v3)] = kvs.map (fun kv => (kV kv.1, kv.2)) ∧ kvs.length ≤ 15 ∧ Q (.ref p) (upd H3 p (.dK (mergeK [] kvs)))) :
    tDisp [(tC (.str a), t1), (tC (.str b), t2), (tC (.str c), t3)] σ H Q := h
def putPts : Nat → List Int → List (List Int) → List (List Int)
  | _, [], cs => cs
  | p, x :: xs, cs => putPts (p + 1) xs (cs.set x.toNat (cs.getD x.toNat [] ++ [(p : Int)]))
def fPieces : List Slot → Tr D
  | [.val (.tuple ds)] => match dNums ds with
    | some (n :: ns) => if (∀ x ∈ n :: ns, 0 ≤ x ∧ x < 1000) ∧ (n :: ns).length ≤ 1000 then .ret (.tuple ((putPts 0 (n :: ns) (List.replicate (maxI n ns + 1).toNat [])).map fun c => .tuple (c.map PyData.int))) else .fail
    | _ => .fail
  | _ => .fail
structure Pt (H1 : Hp) (Pd : Addr) (ls : List Addr) (H' : Hp) (cs : List (List Int)) : Prop where
  len : cs.length = ls.length
  top : H' Pd = some (.lst (ls.map V.ref))
  lot : ∀ (k : Nat) (l : Addr) (c : List Int), ls[k]? = some l → cs[k]? = some c → H' l = some (.lst (c.map V.int))
  sam : Same H1 H'
end
end DL
end
section
set_option linter.all false
set_option maxRecDepth 100000
namespace DL
open PySem PySem.Spec PyProof.Rows L2
def reo {α : Type} (n : Nat) (idx : List Nat) (d : α) (xs : List α) : List α := if xs.length = n then idx.map fun i => xs.getD i d else []
theorem paired_getD {α β : Type} {F : α → β → Prop} {a : α} {b : β} (h0 : F a b) : ∀ {xs : List α} {ys : List β} (i : Nat), Paired F xs ys → F (xs.getD i a) (ys.getD i b)
  | _, _, _, .nil => by simpa using h0
  | _, _, 0, .cons h _ => by simpa using h
  | _, _, i + 1, .cons _ t => by simpa using paired_getD h0 i t
theorem paired_reo {α β : Type} {F : α → β → Prop} {a : α} {b : β} (h0 : F a b) {n : Nat} {idx : List Nat} {xs : List α} {ys : List β} (h : Paired F xs ys) : Paired F (reo n idx a xs) (reo n idx b ys) := by
  unfold reo
  rw [Paired.length h]
  split
  · induction idx with
    | nil => exact .nil
    | cons i idx ih => exact .cons (paired_getD h0 i h) ih
  · exact .nil
def aReo (n : Nat) (idx : List Nat) (r : FA) : FA := fun env => (r env).bind fun ss => .ret (reo n idx (.val .none) ss)
theorem xe_callKP {X : Cx} {pos p : Pos} {x : Str} {j n : Nat} {idx : List Nat} {ps ks : List Str} {F : List Slot → Tr D} {k : Kd} {r : FA} {kws : List Keyword} (C : CalK X.prog X.w X.K X.mg X.base x j ps (reo n idx .none) (reo n idx .non) (spD X.K k n F) ks) (hr : Room j X.A) (hgd : X.A.guards = some []) (hg : Gl X x) (hkw : PK X kws (tAs X.K r)) (hn : ArgN r n) (hi : idx.length = n)
    (hall : (backToKw pos (keywordEach kws X.env)).all (·.1.isSome) = true := by rfl) (hks : (backToKw pos (keywordEach kws X.env)).filterMap (·.1) = ks := by rfl) (hdb : (x == ("__debug__" : Str)) = false := by decide)
    (hpl : ((backTo pos (starEach [] X.env)).any (·.1) || (backToKw pos (keywordEach kws X.env)).any (·.1.isNone)) = false := by rfl) : XE X k (.Call (.Name x p) [] kws pos) (eCall F (aReo n idx r)) :=
  weak (pe_callGK C hr hgd hg hkw hall hks hdb hpl) fun σ H Q ⟨ω, N, E, b, env, rr, q⟩ => by
  refine ⟨ω, N, E, b, env, rr, Tr.All_mono (hn _ _ _ ((Tr.All_bind _ _ _ _).mp ((Tr.All_bind _ _ _ _).mp q))) fun ss c ⟨hl, qa⟩ vs H1 k1 o1 i1 => ?_⟩
  refine ⟨ω, N, c, reo n idx (.val .none) ss, ?_, rr.om, (rr.move k1 o1).dom, ⟨o1, rr.tb⟩, paired_reo (show SlotA X.K ω N H1 (.val .none) .non from In.non) i1, Tr.All_mono qa fun d c2 qb v H2 k2 o2 i2 => qb v H2 (k1.trans k2) o2 (RK.back k1 o1 i2)⟩
  unfold reo
  rw [if_pos hl, List.length_map, hi]
end DL
end
section
set_option linter.all false
set_option maxRecDepth 100000
namespace DL
open PySem PySem.Spec PyProof.Rows L2
end DL
end
section
set_option linter.all false
set_option maxRecDepth 100000
namespace DL
open PySem PySem.Spec PyProof.Rows L2
section
variable {X : Cx} {e : Expr}
end
end DL
end
section
set_option linter.all false
set_option maxRecDepth 100000
namespace DL
open PySem PySem.Spec PyProof.Rows L2
section
variable {X : Cx}
section
variable {prog : Program} {w : World} {A : Around} {E : Value → Shared → Prop} {s : Shared}
open HT PySem in
end
end
end DL
end
section
set_option linter.all false
set_option maxRecDepth 100000
namespace DL
open PySem PySem.Spec PyProof.Rows L2
/-- the old frame and the one that is being filled, side by side -/
theorem RepE.fill2 {K : PySem.W.Frag} {ω : Option Om} {N : Addr → Prop} {E H H1 : Hp} {b c : Nat} {env env' : Ev} {σ σ' : L2.St} {o : Bool} {i : Nat} {x : D} {v : V} (r : RepE K ω N E H b env σ) (r' : RepE K ω N E H b env' σ') (k1 : Keep ω H H1) (oo : OrcO ω c H1) (h : RK K ω N H H1 (kdOf o) v x) :
    ∃ N1, RepE K ω N1 E H1 c env σ ∧ RepE K ω N1 E H1 c (setS o i x env') (σ'.set i (some v)) ∧ (∀ z, N z → N1 z) ∧ Pres K N N1 H H1 := by
  cases o with
  | false => exact ⟨N, r.move k1 oo, (r'.move k1 oo).setV h, fun _ z => z, Pres.keep r.om k1⟩
  | true =>
    obtain ⟨p, rfl, hp, h1⟩ := h
    obtain ⟨op, ep⟩ := h1.there
    refine ⟨addN N p, r.more k1 oo hp (by rw [ep]; exact fun q => nomatch q), r'.own k1 oo hp h1, fun _ z => .inl z, fun v d hv => ?_⟩
    exact hv.mono (fun x z => z.elim .inl fun e => .inr (by rw [e]; exact hp)) fun x o e n => k1 x o e fun z => n (r.om x z)
def sPar3 (o1 o2 o3 : Bool) (i j l : Nat) (f1 f2 f3 : FE) : FS := fun env => (f1 env).bind fun x => (f2 env).bind fun y => (f3 env).bind fun z => .ret (.nx (setS o3 l z (setS o2 j y (setS o1 i x env))))
end DL
end
section
set_option linter.all false
set_option maxRecDepth 100000
namespace DL
open PySem PySem.Spec PyProof.Rows L2
def spLaw (K : PySem.W.Frag) : Sp := fun vs H Q _ => ∃ (a : Addr) (ns : List Int), vs = [.ref a] ∧ SqS K (fun _ => False) H a (ns.map V.int) ∧ ns.length ≤ 63 ∧ (∀ z ∈ ns, z.natAbs < 2 ^ 1048577) ∧ ∀ H', Q (.bl true) H'
/-- the same, where tables of code objects are known -/
def spLawT (K : PySem.W.Frag) : Sp := fun vs H Q E => LamX.Tabs (lamTabs K) H ∧ spLaw K vs H Q E
def spBegun (K : PySem.W.Frag) : Sp := fun vs H Q _ => ∃ (a : Addr) (ns : List Int), vs = [.ref a] ∧ SqS K (fun _ => False) H a (ns.map V.int) ∧ ns.length ≤ 63 ∧ (∀ z ∈ ns, z.natAbs < 2 ^ 1048577) ∧
  ∀ (w : Om), w.tb = [] → ∀ (H' : Hp), Same H H' → H w.a = none → H w.c = none → H w.g = none → (∀ b : Nat, b ≤ 2 ^ 40 → Orc w b H') → Q (.ref w.a) H'
/-- the frame behind the first statement -/
def env0 (n : Nat) (ns : List Int) : Ev := some (.val (scrD (ns.map PyData.int))) :: some .orc :: List.replicate n none
/-- the rest of the law comes to True, whatever is drawn -/
def RestOk (n : Nat) (rest : FS) : Prop := ∀ ns : List Int, ns.length ≤ 63 → ∃ b : Nat, b ≤ 2 ^ 40 ∧ (rest (env0 n ns)).All b fun o _ => o = .rv (.bool true)
theorem law_reads {K : PySem.W.Frag} {n : Nat} {Ns : List Str} {rest : FS} {vs : List V} {H : Hp} {Q : VK} {E : XK} {t : TE} (hN : Ns.length = n + 2) (ht : ∀ σ H Q, tCons (tVar 0) tNil σ H (fun vs H1 => spBegun K vs H1 Q E0) → t σ H Q) (ok : RestOk n rest) (h : spLawT K vs H Q E) :
    tSeq (tAsg t (gName 1)) (tS K .v rest) { nx := fun _ H' => Q .non H', rt := Q } (L2.start Ns vs) H := by
  obtain ⟨hT0, a, ns, rfl, hs, hl, hb, hq⟩ := h
  have e0 : L2.start Ns [V.ref a] = some (V.ref a) :: none :: List.replicate n none := by
    unfold L2.start
    rw [hN]
    show [some (V.ref a)] ++ List.replicate (n + 2 - 1) none = _
    rw [show n + 2 - 1 = n + 1 by omega, List.replicate_succ]
    rfl
  rw [e0]
  refine seqAsg (ht _ _ _ ⟨_, rfl, a, ns, rfl, hs, hl, hb, fun w0 w00 H' s ha hc hg orc0 => ?_⟩)
  let w : Om := { w0 with tb := lamTabs K }
  have hT : LamX.Tabs (lamTabs K) H' := hT0.ext s
  have orc : ∀ b : Nat, b ≤ 2 ^ 40 → Orc w b H' := fun b hb => ⟨hT, (orc0 b hb).2⟩
  obtain ⟨b, hb2, q⟩ := ok ns hl
  have hO := orc b hb2
  have na : ¬ OmAt (some w) a ∨ LK K a (ns.map V.int) := by
    rcases hs with ⟨_, o, e⟩ | e
    · refine .inl fun z => ?_
      rcases z with z | z | z | ⟨q, z⟩
      · rw [z, ha] at e; cases e
      · rw [z, hc] at e; cases e
      · rw [z, hg] at e; cases e
      · obtain ⟨ps, e2, _⟩ := hT0 _ z
        have e2 : H a = _ := e2
        rw [e] at e2; cases e2
    · exact .inr e
  have hs' : SqS K (OmAt (some w)) H' a (ns.map V.int) := by
    rcases hs with ⟨_, o, e⟩ | e
    · rcases na with na | na
      · exact .inl ⟨na, o, s _ _ e⟩
      · exact .inr na
    · exact .inr e
  have r : RepE K (some w) (OmAt (some w)) H' H' b (env0 n ns) (some (V.ref a) :: some (V.ref w.a) :: List.replicate n none) := {
    len := by unfold env0; simp
    slot := fun i s e => by
      unfold env0 at e
      rcases i with _ | _ | i
      · cases e
        exact ⟨_, rfl, In.scr hs' (in_ints ns)⟩
      · cases e
        exact ⟨_, rfl, w, rfl, rfl, rfl⟩
      · rw [List.getElem?_cons_succ, List.getElem?_cons_succ, List.getElem?_replicate] at e
        split at e <;> cases e
    sep := fun i j di dj x hij e1 e2 e3 e4 => by
      unfold env0 at e1
      rcases i with _ | _ | i
      · cases e1
      · cases e1
      · rw [List.getElem?_cons_succ, List.getElem?_cons_succ, List.getElem?_replicate] at e1
        split at e1 <;> cases e1
    dom := fun x hx => (show OrcO (some w) b H' from hO).there hx
    om := fun _ h => h
    orc := hO
    keep := Keep.refl
    tb := fun w1 e1 => by cases e1; rfl }
  refine ⟨some w, OmAt (some w), OmAt (some w), H', b, env0 n ns, r, fun _ h => h, fun x hx => (show OrcO (some w) b H' from hO).there hx, Tr.All_mono q fun o c e => ?_⟩
  subst e
  intro v H2 _ _ i
  cases In.bool_inv (show In K (OmAt (some w)) H2 v (.bool true) from i)
  exact hq H2
/-- the law's def, of a body that begins with m = _law_begun(script) -/
theorem law_of_rest {P : Program} {w : World} {K : PySem.W.Frag} {mg : Str → Option Value} {base : Heap} {st : Stmt} {f : Addr} {fd : FuncData} {Ns : List Str} {k n : Nat} {rest : FS} (F : Fun K "law" "law" st f fd) (S : FnScope Ns ["script"] (defScope st)) (hN : Ns.length = n + 2)
    (hb : ∀ (cdv : Value) (A : Around) (outer : List Env) (s : Shared) (H : Hp) (E : XK), Room k (A.deeper (envOfC "law" (defScope st) s.heap.objs.size f cdv)) → A.guards = some [] →
      ∃ t, (∀ σ H Q, tCons (tVar 0) tNil σ H (fun vs H1 => spBegun K vs H1 Q E0) → t σ H Q) ∧ PSs (cxOf CX0 P w K mg base Ns "law" (defScope st) f cdv A outer s H E).nox (defBody st) (tSeq (tAsg t (gName 1)) (tS K .v rest)))
    (ok : RestOk n rest) (none_ : lamTabs K = []) : FnG P w K mg base (k + 1) f fd ["script"] (spLaw K) := by
  refine fnG_raw F S (fun _ _ _ _ ⟨a, ns, e, _⟩ => by rw [e]; rfl) fun cdv A outer s H vs Q E hr hgd hs => ?_
  obtain ⟨t, ht, h⟩ := hb cdv A outer s H E hr hgd
  exact ⟨_, h, law_reads hN ht ok ⟨(by rw [none_]; exact fun p m => nomatch m), hs⟩⟩
theorem bits_lt {z : Int} (h : Builtin.Int.intBits z ≤ 1048576) : z.natAbs < 2 ^ 1048577 := by
  unfold Builtin.Int.intBits at h
  by_cases e : z = 0
  · subst e
    exact Nat.two_pow_pos _
  · have e2 : (z == 0) = false := by simpa using e
    rw [e2] at h
    have h1 : z.natAbs.log2 + 1 ≤ 1048576 := h
    have h2 : z.natAbs < 2 ^ (z.natAbs.log2 + 1) := Nat.lt_log2_self
    exact Nat.lt_of_lt_of_le h2 (Nat.pow_le_pow_right (by omega) (by omega))
theorem walk_GE {l : PySem.W.OpenLaw} {k : Nat} {q : Program} {loose : List Str} {XP : (Str → Option Value) → Heap → Prop} {YP : World → Heap → Prop} {d : DefRec} {y : Str} (hn : l.most = some 63) (hdf : d.params.defaults = []) (hr : Room k callerA)
    (F : ∀ (w : World) (mg : Str → Option Value) (fa : Addr) (h : Heap), YP w h → h.Ns mainGlobals mg → mg d.name = some (.ref fa) →
      ∃ (K : PySem.W.Frag) (fd : FuncData), K.In h ∧ (∀ (s : Shared) (u : Value), BindsTo s fd ⟨[u], []⟩ [(y, u)]) ∧ ∀ base : Heap, K.In base → base.Ns mainGlobals mg → FnG l.prog w K mg base k fa fd [y] (spLaw K)) :
    PySem.W.WalkO q loose XP YP l.row.toRowW d [] (fun f vs => PySem.call f vs) := by
  refine Att.attach_callB hn hdf fun w s0 st mg mb fa o pm cd doc a vs ns G Y _ _ _ hmg hobj hi hlen hbits nog => ?_
  obtain ⟨K, fd, kin, bnd, hF⟩ := F w mg fa _ Y G.T.g hmg
  have rv := vals_ints hi
  have hsz : (ns.map V.int).length ≤ sizeLine := by rw [List.length_map, sizeLine_eq]; omega
  have hb : ∀ z ∈ ns, z.natAbs < 2 ^ 1048577 := fun z hz => bits_lt (hbits z hz)
  match hk : K.lookup a with
  | some ob =>
    have hob := kin a ob hk
    rw [hobj] at hob
    cases hob
    refine top_run kin G.T.g G.T.b G.T.builtins G.T.nolimit nog hr hF bnd (fun _ => none) (fun b u z => nomatch (show (none : Option HO) = some u from z)) (fun b u z => nomatch (show (none : Option HO) = some u from z)) ⟨a, ns, rfl, .inr ⟨_, vs.toArray, _, hk, rfl, rfl, rfl, ?_, by simpa using rv⟩, hlen, hb, fun _ => rfl⟩
    rw [List.size_toArray, hi.length, sizeLine_eq]
    omega
  | none =>
    let H : Hp := fun b => if b = a then some (.frz { cls := .type "list", data := .seq vs.toArray } (.lst (ns.map V.int))) else none
    have here : H a = some (.frz { cls := .type "list", data := .seq vs.toArray } (.lst (ns.map V.int))) := if_pos rfl
    have only : ∀ b u, H b = some u → b = a ∧ u = .frz { cls := .type "list", data := .seq vs.toArray } (.lst (ns.map V.int)) := fun b u z => by
      by_cases e : b = a
      · subst e
        rw [here] at z
        cases z
        exact ⟨rfl, rfl⟩
      · have z' : (if b = a then some _ else none : Option HO) = some u := z
        rw [if_neg e] at z'
        cases z'
    refine top_run kin G.T.g G.T.b G.T.builtins G.T.nolimit nog hr hF bnd H (fun b u z => ?_) (fun b u z => ?_) ⟨a, ns, rfl, .inl ⟨id, _, here⟩, hlen, hb, fun _ => rfl⟩
    · obtain ⟨rfl, rfl⟩ := only b u z
      exact ⟨_, _, vs.toArray, 0, rfl, hobj, rfl, hk⟩
    · obtain ⟨rfl, rfl⟩ := only b u z
      exact ⟨hobj, hsz, vs, 0, rv, hobj⟩
mutual
def wrB (K : PySem.W.Frag) : Nat → Value → D → Bool
  | _, .none, .none => true
  | _, .bool b, .bool c => b == c
  | _, .int i _, .int j => decide (i = j)
  | _, .str x _, .str y => decide (x = y)
  | n + 1, .ref a, .tuple ds => match K.lookup a with
    | some o => match o.cls, o.data with
      | .type c, .seq its _ => decide (c = "tuple") && o.dict.isNone && (decide (its.size ≤ sizeLine) && wrBs K n its.toList ds)
      | _, _ => false
    | none => false
  | _, _, _ => false
def wrBs (K : PySem.W.Frag) : Nat → List Value → List D → Bool
  | _, [], [] => true
  | n + 1, u :: us, d :: ds => wrB K n u d && wrBs K n us ds
  | _, _, _ => false
end
mutual
theorem wrB_ok {K : PySem.W.Frag} : ∀ (n : Nat) (u : Value) (d : D), wrB K n u d = true → ∃ v, RelV v u ∧ ∀ N H, In K N H v d
  | n, u, d, h => by
    unfold wrB at h
    split at h
    · exact ⟨.non, rfl, fun _ _ => .non⟩
    · rename_i b c
      cases eq_of_beq h
      exact ⟨.bl b, rfl, fun _ _ => .bl b⟩
    · rename_i i t j
      cases of_decide_eq_true h
      exact ⟨.int i, ⟨t, rfl⟩, fun _ _ => .int i⟩
    · rename_i x t y
      cases of_decide_eq_true h
      exact ⟨.str x, ⟨t, rfl⟩, fun _ _ => .str x⟩
    · rename_i m a ds
      split at h
      · rename_i o lk
        split at h
        · rename_i c its k ec ed
          rw [Bool.and_eq_true, Bool.and_eq_true, Bool.and_eq_true] at h
          obtain ⟨⟨h1, hd⟩, h2, h3⟩ := h
          obtain ⟨vs, r, hi⟩ := wrBs_ok m its.toList ds h3
          exact ⟨.ref a, rfl, fun N H => .tupK ⟨o, its, k, lk, by rw [ec, of_decide_eq_true h1], Option.isNone_iff_eq_none.mp hd, ed, of_decide_eq_true h2, r⟩ (hi N H)⟩
        · cases h
      · cases h
    · cases h
theorem wrBs_ok {K : PySem.W.Frag} : ∀ (n : Nat) (us : List Value) (ds : List D), wrBs K n us ds = true → ∃ vs, Vals vs us ∧ ∀ N H, InAll K N H vs ds
  | n, us, ds, h => by
    unfold wrBs at h
    split at h
    · exact ⟨[], .nil, fun _ _ => .nil⟩
    · rename_i m u us d ds
      rw [Bool.and_eq_true] at h
      obtain ⟨v, r, i⟩ := wrB_ok m u d h.1
      obtain ⟨vs, rs, is⟩ := wrBs_ok m us ds h.2
      exact ⟨v :: vs, .cons r rs, fun N H => .cons (i N H) (is N H)⟩
    · cases h
end
def gloB (K : PySem.W.Frag) (x : Str) (d : D) : Bool := match PySem.W.nsIn K mainGlobals x with
  | some (some u) => wrB K 100 u d
  | _ => false
theorem gloB_ok {K : PySem.W.Frag} {h : Heap} {mg : Str → Option Value} (X : K.In h) (G : h.Ns mainGlobals mg) {x : Str} {d : D} (c : gloB K x d = true) : Glob K mg x d := by
  unfold gloB at c
  split at c
  · rename_i u e
    obtain ⟨v, r, i⟩ := wrB_ok _ _ _ c
    exact ⟨v, u, PySem.W.mg_of X G e, r, i⟩
  · cases c
def obsM (n : Nat) (fa : List He.Fa) (fn : List He.DefD) (ex : PySem.W.Frag → Bool) (g : Addr → Option Obj) : He.AlD × Bool := (He.obsD fa fn (He.frG g (He.asD g n)), ex (He.frG g (He.asD g n)))
def hookM (n : Nat) (fa : List He.Fa) (fn : List He.DefD) (ex : PySem.W.Frag → Bool) : PySem.W.Hook where
  α := He.AlD × Bool
  obs := fun s => obsM n fa fn ex s.heap.get?
  val := fun _ => (He.valD fn, true)
  says := fun _ h => ∃ K : PySem.W.Frag, K.In h ∧ He.SaysD fa fn K ∧ ex K = true
  of := fun _ _ e => ⟨_, He.frG_in, congrArg (fun z : He.AlD × Bool => z.1) e, congrArg (fun z : He.AlD × Bool => z.2) e⟩
  keeps := fun _ _ _ ⟨K, hK, c, c2⟩ k => ⟨K, PySem.W.Frag.In.keeps hK k, c, c2⟩
theorem obsM_eq {n : Nat} {fa : List He.Fa} {fn : List He.DefD} {ex : PySem.W.Frag → Bool} {g : Addr → Option Obj} {s : Shared} (h : ∀ a, g a = s.heap.get? a) : obsM n fa fn ex g = (hookM n fa fn ex).obs s := by
  have e : g = s.heap.get? := funext h
  rw [e]
  rfl
theorem fun_of {K : PySem.W.Frag} {x qual : Str} {st : Stmt} {f : Addr} {fd : FuncData} (F : FunD K x qual (defArgs st) (defBody st) (defScope st) [] [] f fd) : Fun K x qual st f fd := by
  obtain ⟨oc, od, dV, kV, doc, pm, an, cdv, ct, osl, e, lk, hcd, hD, _⟩ := F.ex
  rcases hD with ⟨_, rfl⟩ | ⟨z, _⟩
  · exact ⟨⟨oc, od, kV, doc, pm, an, cdv, ct, osl, e, lk, hcd⟩, F.kp⟩
  · exact absurd rfl z
end DL
end
section
set_option linter.all false
set_option maxRecDepth 100000
namespace DL
open PySem PySem.Spec PyProof.Rows L2
/-- a whole number of the module -/
theorem xe_globI {X : Cx} {x : Str} {i : Int} {pos : Pos} (hg : Gl X x) (h : ∃ t, X.mg x = some (.int i t)) (hdb : (x == ("__debug__" : Str)) = false := by decide) : XE X .v (.Name x pos) (eC (.int i)) := by
  obtain ⟨t, e⟩ := h
  exact xe_glob hg e (v := .int i) ⟨t, rfl⟩ (fun _ _ => .int i) hdb
section
variable {P : Program} {w : World} {K : PySem.W.Frag} {mg : Str → Option Value} {base : Heap} {x : Str} {st : Stmt} {f : Addr} {fd : FuncData} {j : Nat} {ps ks : List Str} {sp : Sp}
theorem calK_id (F : Fun K x x st f fd) (G : FnG P w K mg base j f fd ps sp) (hm : mg x = some (.ref f))
    (h : ∀ (kV doc pm : Value) (an : Option Addr) (cdv ct : Value) (us : List Value), us.length = ps.length → bindArgs (PySem.W.fnOf x x (defArgs st) (defBody st) (defScope st) .none kV doc pm an cdv ct) ⟨[], ps.zip us⟩ = pure (ps.zip us)) : CalK P w K mg base x j ps id id sp ps := by
  refine ⟨f, fd, G, fun s ws _ hl => ?_, fun h => h, hm, F.kp⟩
  obtain ⟨oc, od, kV, doc, pm, an, cdv, ct, osl, rfl, lk, hcd⟩ := F.ex
  exact .of_eq (h kV doc pm an cdv ct ws hl)
theorem calK_reo {n : Nat} {idx : List Nat} (F : Fun K x x st f fd) (G : FnG P w K mg base j f fd ps sp) (hm : mg x = some (.ref f)) (hi : idx.length = ps.length ∧ 0 < ps.length)
    (h : ∀ (kV doc pm : Value) (an : Option Addr) (cdv ct : Value) (us : List Value), us.length = n → bindArgs (PySem.W.fnOf x x (defArgs st) (defBody st) (defScope st) .none kV doc pm an cdv ct) ⟨[], ks.zip us⟩ = pure (ps.zip (reo n idx .none us))) : CalK P w K mg base x j ps (reo n idx .none) (reo n idx .non) sp ks := by
  refine ⟨f, fd, G, fun s ws _ hl => ?_, fun {zs ws} r => paired_reo (F := RelV) (a := V.non) (b := Value.none) rfl r, hm, F.kp⟩
  obtain ⟨oc, od, kV, doc, pm, an, cdv, ct, osl, rfl, lk, hcd⟩ := F.ex
  refine .of_eq (h kV doc pm an cdv ct ws ?_)
  by_cases e : ws.length = n
  · exact e
  · unfold reo at hl
    rw [if_neg e] at hl
    have : 0 = ps.length := hl
    omega
end
end DL
end
section
set_option linter.all false
set_option maxRecDepth 100000
namespace DL
open PySem PySem.Spec PyProof.Rows L2
def dMulA (x y : D) : Option D := match dMul x y with
  | some d => some d
  | none => dRep x y
theorem o_mulA {X : Cx} : OpR X (binaryOp .Mult) (rD2 X.K dMulA .v) := by
  intro pins s σ H x y v u Q I rx ry ⟨ω, N, d, e, z, om, dom, hx, hy, hg, k⟩
  unfold dMulA at hg
  cases q : dMul d e with
  | some d' =>
    rw [q] at hg
    cases hg
    exact o_mul pins s σ H x y v u Q I rx ry ⟨ω, N, d, e, _, om, dom, hx, hy, q, k⟩
  | none =>
    rw [q] at hg
    exact o_rep pins s σ H x y v u Q I rx ry ⟨ω, N, d, e, z, om, dom, hx, hy, hg, fun v' H' s' h => k v' H' s' (h.ov dom)⟩
end DL
namespace DL
open PySem PySem.Spec PyProof.Rows L2
def dLenA : List D → Option D
  | [.dict [(.none, .list ds)]] => some (.int (ds.length : Nat))
  | ds => dLen ds
theorem c_lenA {X : Cx} : CallR X (.builtin "len") (rDn X.K dLenA .v) := by
  intro pins s σ H xs us Q I rx ⟨ω, N, ds, d, om, dom, hx, hg, k⟩
  unfold dLenA at hg
  split at hg
  · rename_i es
    cases hg
    obtain ⟨v, rfl, h⟩ := InBs.one hx
    have h2 : In X.K N H v (scrD es) := by
      rcases h with h | ⟨a, e, n, kvs, ea, h⟩
      · exact h
      · exact absurd rfl (InKV.key h _ (List.mem_cons_self ..))
    obtain ⟨a, ys, rfl, hs, h1⟩ := h2.scr_inv
    exact call_len_seq pins s σ H _ us Q I rx ⟨a, ys, rfl, .inl hs.seq, k _ H (Same.refl H) (by rw [h1.length]; exact .int _)⟩
  · exact c_len pins s σ H xs us Q I rx ⟨ω, N, ds, d, om, dom, hx, hg, k⟩
end DL
end
section
set_option linter.all false
set_option maxRecDepth 100000
namespace DL
open PySem PySem.Spec PyProof.Rows L2
def inOk (x : D) (ds : List D) : Bool := x.canLay0 && decide (x.depth ≤ 60) && ds.all PyData.canLay0
def dInA (neg : Bool) (x : D) : D → Option D
  | .list ds => if (flatD x && ds.all flatD) || inOk x ds then some (.bool (if neg = true then !memD x ds else memD x ds)) else none
  | .tuple ds => if (flatD x && ds.all flatD) || inOk x ds then some (.bool (if neg = true then !memD x ds else memD x ds)) else none
  | _ => none
theorem noDictAll {ds : List D} (h : ds.all PyData.canLay0 = true) : PyData.hasDictAll ds = false := by
  induction ds with
  | nil => rfl
  | cons d ds ih =>
    rw [List.all_cons, Bool.and_eq_true] at h
    show (d.hasDict || PyData.hasDictAll ds) = false
    rw [PyData.hasDict_of_canLay d h.1, ih h.2]
    rfl
theorem readsAll_get {h : Heap} : ∀ {us : List Value} {ds : List D} {as : List Addr}, ReadsAll h us ds as → ∀ (i : Nat) (d : D), ds[i]? = some d → ∃ u bs, us[i]? = some u ∧ Reads h u d bs
  | _, _, _, .nil, _, _, e => by simp at e
  | _, _, _, .cons r rs, 0, d, e => by
    simp at e
    subst e
    exact ⟨_, _, rfl, r⟩
  | _, _, _, .cons r rs, i + 1, d, e => by
    obtain ⟨u, bs, e1, r1⟩ := readsAll_get rs i d (by simpa using e)
    exact ⟨u, bs, by simpa using e1, r1⟩
theorem readsAll_len {h : Heap} : ∀ {us : List Value} {ds : List D} {as : List Addr}, ReadsAll h us ds as → us.length = ds.length
  | _, _, _, .nil => rfl
  | _, _, _, .cons r rs => by rw [List.length_cons, List.length_cons, readsAll_len rs]
open Classical in
noncomputable def eqW (us : List Value) (ds : List D) (d : D) (y : Value) : Bool := decide (∃ (i : Nat) (dy : D), us[i]? = some y ∧ ds[i]? = some dy ∧ PyData.eqv dy d = true)
open Classical in
theorem eqW_at {h : Heap} {us : List Value} {ds : List D} {as : List Addr} (r : ReadsAll h us ds as) {d dy : D} {y : Value} {i : Nat} (hy : us[i]? = some y) (hd : ds[i]? = some dy) : eqW us ds d y = PyData.eqv dy d := by
  unfold eqW
  cases e : PyData.eqv dy d
  · refine decide_eq_false ?_
    rintro ⟨j, dz, h1, h2, h3⟩
    obtain ⟨u, bs, q1, q2⟩ := readsAll_get r i dy hd
    obtain ⟨u', bs', q3, q4⟩ := readsAll_get r j dz h2
    rw [hy] at q1
    rw [h1] at q3
    cases q1
    cases q3
    have := (PyProof.Rows.reads_det (fun _ _ e _ => e) q2 q4).1
    subst this
    rw [e] at h3
    cases h3
  · exact decide_eq_true ⟨i, dy, hy, hd, e⟩
open Classical in
theorem eqW_any {h : Heap} {us : List Value} {ds : List D} {as : List Addr} (r : ReadsAll h us ds as) {d : D} : us.any (eqW us ds d) = memD d ds := by
  unfold memD
  rw [Bool.eq_iff_iff, List.any_eq_true, List.any_eq_true]
  constructor
  · rintro ⟨y, hy, e⟩
    obtain ⟨i, dy, h1, h2, h3⟩ := of_decide_eq_true e
    exact ⟨dy, List.mem_of_getElem? h2, h3⟩
  · rintro ⟨dy, hd, e⟩
    obtain ⟨i, hi⟩ := List.getElem?_of_mem hd
    obtain ⟨u, bs, q1, _⟩ := readsAll_get r i dy hi
    exact ⟨u, List.mem_of_getElem? q1, by rw [eqW_at r q1 hi]; exact e⟩
section
variable {X : Cx}
theorem eq_all {pins : List (Addr × Obj)} {σ : L2.St} {H : Hp} {s : Shared} (I : Inv X pins σ H s) {us : List Value} {ds : List D} {as bs : List Addr} (r : ReadsAll s.heap us ds as) {v : Value} {d : D} (rv : Reads s.heap v d bs) (hc : d.canLay0 = true) (hd : d.depth ≤ 60) (ha : ds.all PyData.canLay0 = true) (hu : X.A.units + 64 < cLine) : ∀ y ∈ us, SeqAt.EqAt X.A.in1 s y v (eqW us ds d y) := fun y hy => by
  obtain ⟨i, hi⟩ := List.getElem?_of_mem hy
  have hl : i < ds.length := by
    rw [← readsAll_len r]
    exact (List.getElem?_eq_some_iff.mp hi).1
  have hdy : ds[i]? = some ds[i] := List.getElem?_eq_getElem hl
  rw [eqW_at r hi hdy]
  obtain ⟨u, cs, q1, q2⟩ := readsAll_get r i _ hdy
  rw [hi] at q1
  cases q1
  refine SeqAt.eqAt_reads ds[i] d X.A.in1 s y v cs bs q2 rv (List.all_eq_true.mp ha _ (List.getElem_mem hl)) hc ?_
  show X.A.units + 1 + min ds[i].depth d.depth < cLine
  have := Nat.min_le_right ds[i].depth d.depth
  omega
theorem o_inA0 (hu : X.A.units + 64 < cLine) : OpR X (compareOp .In) (rD2 X.K (dInA false) .v) := by
  intro pins s σ H x y v u Q I rx ry ⟨ω, N, d, e, z, om, dom, hx, hy, hg, k⟩
  by_cases fl : ∃ ds, (e = .list ds ∨ e = .tuple ds) ∧ (flatD d && ds.all flatD) = true
  · obtain ⟨ds, he, fl⟩ := fl
    refine o_in pins s σ H x y v u Q I rx ry ⟨ω, N, d, e, z, om, dom, hx, hy, ?_, k⟩
    rw [Bool.and_eq_true] at fl
    rcases he with rfl | rfl
    · simp only [dInA, fl.1, fl.2, Bool.and_self, Bool.true_or, if_true] at hg
      simp only [dIn, fl.1, fl.2, and_self, if_true]
      exact hg
    · simp only [dInA, fl.1, fl.2, Bool.and_self, Bool.true_or, if_true] at hg
      simp only [dIn, fl.1, fl.2, and_self, if_true]
      exact hg
  · cases e <;> first | (cases hg; done) | skip
    · rename_i ds
      have nf : (flatD d && ds.all flatD) = false := by
        cases q : (flatD d && ds.all flatD)
        · rfl
        · exact absurd ⟨ds, .inl rfl, q⟩ fl
      simp only [dInA, nf, Bool.false_or] at hg
      split at hg
      · cases hg
        rename_i hs
        unfold inOk at hs
        rw [Bool.and_eq_true, Bool.and_eq_true] at hs
        obtain ⟨⟨c1, c2⟩, c3⟩ := hs
        obtain ⟨a, xs, rfl, ha, h1⟩ := hy.list
        cases ry
        obtain ⟨its, rv, pl, hz⟩ := I.list (.inl (.inl ha))
        obtain ⟨as, r1⟩ := Dp.readsAll I ds xs its (h1.dp (noDictAll c3)) rv
        obtain ⟨bs, r2⟩ := Dp.reads I d x v (hx.dp (PyData.hasDict_of_canLay d c1)) rx
        refine SeqAt.in_listAt (eqW its ds d) pl.isList (fun w hw => eq_all I r1 r2 c1 (of_decide_eq_true c2) c3 hu w (by simpa using hw)) ⟨.bl _, H, I, rfl, ?_⟩
        rw [show its.toArray.any (eqW its ds d) = its.any (eqW its ds d) by simp, eqW_any r1]
        exact k _ H (Same.refl H) (.bl _)
      · cases hg
    · rename_i ds
      have nf : (flatD d && ds.all flatD) = false := by
        cases q : (flatD d && ds.all flatD)
        · rfl
        · exact absurd ⟨ds, .inr rfl, q⟩ fl
      simp only [dInA, nf, Bool.false_or] at hg
      split at hg
      · cases hg
        rename_i hs
        unfold inOk at hs
        rw [Bool.and_eq_true, Bool.and_eq_true] at hs
        obtain ⟨⟨c1, c2⟩, c3⟩ := hs
        obtain ⟨a, xs, rfl, ha, h1⟩ := hy.tuple
        cases ry
        obtain ⟨its, rv, pl, hz⟩ := I.tuple ha
        obtain ⟨as, r1⟩ := Dp.readsAll I ds xs its (h1.dp (noDictAll c3)) rv
        obtain ⟨bs, r2⟩ := Dp.reads I d x v (hx.dp (PyData.hasDict_of_canLay d c1)) rx
        refine SeqAt.in_tupleAt (eqW its ds d) pl (fun w hw => eq_all I r1 r2 c1 (of_decide_eq_true c2) c3 hu w (by simpa using hw)) ⟨.bl _, H, I, rfl, ?_⟩
        rw [show its.toArray.any (eqW its ds d) = its.any (eqW its ds d) by simp, eqW_any r1]
        exact k _ H (Same.refl H) (.bl _)
      · cases hg
end
end DL
namespace DL
open PySem PySem.Spec PyProof.Rows L2
section
variable {X : Cx}
theorem o_notA0 (hu : X.A.units + 64 < cLine) : OpR X (compareOp .NotIn) (rD2 X.K (dInA true) .v) := by
  intro pins s σ H x y v u Q I rx ry ⟨ω, N, d, e, z, om, dom, hx, hy, hg, k⟩
  by_cases fl : ∃ ds, (e = .list ds ∨ e = .tuple ds) ∧ (flatD d && ds.all flatD) = true
  · obtain ⟨ds, he, fl⟩ := fl
    refine o_notin pins s σ H x y v u Q I rx ry ⟨ω, N, d, e, z, om, dom, hx, hy, ?_, k⟩
    rw [Bool.and_eq_true] at fl
    rcases he with rfl | rfl
    · simp only [dInA, fl.1, fl.2, Bool.and_self, Bool.true_or, if_true] at hg
      simp only [dIn, fl.1, fl.2, and_self, if_true]
      exact hg
    · simp only [dInA, fl.1, fl.2, Bool.and_self, Bool.true_or, if_true] at hg
      simp only [dIn, fl.1, fl.2, and_self, if_true]
      exact hg
  · cases e <;> first | (cases hg; done) | skip
    · rename_i ds
      have nf : (flatD d && ds.all flatD) = false := by
        cases q : (flatD d && ds.all flatD)
        · rfl
        · exact absurd ⟨ds, .inl rfl, q⟩ fl
      simp only [dInA, nf, Bool.false_or] at hg
      split at hg
      · cases hg
        rename_i hs
        unfold inOk at hs
        rw [Bool.and_eq_true, Bool.and_eq_true] at hs
        obtain ⟨⟨c1, c2⟩, c3⟩ := hs
        obtain ⟨a, xs, rfl, ha, h1⟩ := hy.list
        cases ry
        obtain ⟨its, rv, pl, hz⟩ := I.list (.inl (.inl ha))
        obtain ⟨as, r1⟩ := Dp.readsAll I ds xs its (h1.dp (noDictAll c3)) rv
        obtain ⟨bs, r2⟩ := Dp.reads I d x v (hx.dp (PyData.hasDict_of_canLay d c1)) rx
        refine SeqAt.notIn_listAt (eqW its ds d) pl.isList (fun w hw => eq_all I r1 r2 c1 (of_decide_eq_true c2) c3 hu w (by simpa using hw)) ⟨.bl _, H, I, rfl, ?_⟩
        rw [show its.toArray.any (eqW its ds d) = its.any (eqW its ds d) by simp, eqW_any r1]
        exact k _ H (Same.refl H) (.bl _)
      · cases hg
    · rename_i ds
      have nf : (flatD d && ds.all flatD) = false := by
        cases q : (flatD d && ds.all flatD)
        · rfl
        · exact absurd ⟨ds, .inr rfl, q⟩ fl
      simp only [dInA, nf, Bool.false_or] at hg
      split at hg
      · cases hg
        rename_i hs
        unfold inOk at hs
        rw [Bool.and_eq_true, Bool.and_eq_true] at hs
        obtain ⟨⟨c1, c2⟩, c3⟩ := hs
        obtain ⟨a, xs, rfl, ha, h1⟩ := hy.tuple
        cases ry
        obtain ⟨its, rv, pl, hz⟩ := I.tuple ha
        obtain ⟨as, r1⟩ := Dp.readsAll I ds xs its (h1.dp (noDictAll c3)) rv
        obtain ⟨bs, r2⟩ := Dp.reads I d x v (hx.dp (PyData.hasDict_of_canLay d c1)) rx
        refine SeqAt.notIn_tupleAt (eqW its ds d) pl (fun w hw => eq_all I r1 r2 c1 (of_decide_eq_true c2) c3 hu w (by simpa using hw)) ⟨.bl _, H, I, rfl, ?_⟩
        rw [show its.toArray.any (eqW its ds d) = its.any (eqW its ds d) by simp, eqW_any r1]
        exact k _ H (Same.refl H) (.bl _)
      · cases hg
def rIdxD (K : PySem.W.Frag) : V → List V → Hp → VK → Prop := fun x xs H Q => ∃ (a : Addr) (ys : List V) (y : V) (ds : List D) (d : D), x = V.ref a ∧ xs = [y] ∧ SqL K H a ys ∧ DpAll K H ys ds ∧ Dp K H y d ∧ inOk d ds = true ∧ memD d ds = true ∧ Q (.int ((ds.findIdx fun z => PyData.eqv z d : Nat))) H
theorem mt_idxD (hu : X.A.units + 64 < cLine) : MtR X "list.index" (rIdxD X.K) := by
  intro pins s σ H x xs v us Q I rx rxs h
  obtain ⟨a, ys, y, ds, d, rfl, rfl, hs, hys, hy, hok, hm, q⟩ := h
  unfold inOk at hok
  rw [Bool.and_eq_true, Bool.and_eq_true] at hok
  obtain ⟨⟨c1, c2⟩, c3⟩ := hok
  cases rx
  cases rxs with
  | cons ry rt =>
    rename_i uy ut
    cases rt
    obtain ⟨its, rv, ⟨⟨cls, dd, data, sl⟩, n, ho, hc, hdn, hd⟩, hlen⟩ := I.list hs
    simp only at hc hd
    subst hc hd
    obtain ⟨as, r1⟩ := Dp.readsAll I ds ys its hys rv
    obtain ⟨bs, r2⟩ := Dp.reads I d y uy hy ry
    have hl := readsAll_len r1
    obtain ⟨d0, hd0, he0⟩ : ∃ z ∈ ds, PyData.eqv z d = true := by
      unfold memD at hm
      exact List.any_eq_true.mp hm
    have hlt : (ds.findIdx fun z => PyData.eqv z d) < ds.length := List.findIdx_lt_length_of_exists ⟨d0, hd0, he0⟩
    have hj : (ds.findIdx fun z => PyData.eqv z d) < its.toArray.size := by
      rw [List.size_toArray, hl]
      exact hlt
    have at_ : ∀ m (h1 : m < its.toArray.size) (h2 : m < ds.length), eqW its ds d its.toArray[m] = PyData.eqv ds[m] d := fun m h1 h2 => eqW_at r1 (by
      rw [List.getElem_toArray]
      exact List.getElem?_eq_getElem _) (List.getElem?_eq_getElem h2)
    have hsl := sizeLine_eq
    have hvl := rv.length
    have hll : ys.length ≤ sizeLine := hlen
    refine call_meets PySem.F.slot_list_index ⟨_, ho, rfl⟩ PySem.F.entry_list_index (PySem.F.args_list_index_2 _ _)
      (SeqAt.list_indexAt a its.toArray n dd sl uy (eqW its ds d) _ hj (by
        have : its.toArray.size = its.length := List.size_toArray ..
        omega) ?_ ?_) ⟨ho, fun u' hu' => eq_all I r1 r2 c1 (of_decide_eq_true c2) c3 hu u' (by simpa using hu'), ?_⟩
    · rw [at_ _ hj hlt]
      exact List.findIdx_getElem (w := hlt)
    · intro m hm hmj
      rw [at_ m hm (by rw [List.size_toArray] at hm; omega)]
      exact Bool.eq_false_iff.mpr (by simpa using List.not_of_lt_findIdx hmj)
    · exact ⟨.int _, H, I.tok _, ⟨_, rfl⟩, q⟩
def dIdxA (ds : List D) (y : D) : Option D := if inOk y ds = true ∧ memD y ds = true then some (.int ((ds.findIdx fun z => PyData.eqv z y : Nat))) else none
def eIdxA (f fy : FE) : FE := fun env => (f env).bind fun d => match d with
  | .list ds => (fy env).bind fun y => Tr.ofOpt (dIdxA ds y)
  | _ => .fail
theorem xe_idxA {e : Expr} {f fy : FE} (h : PE X e (tBM X.K "list" (rIdxD X.K) (tX X.K .b f) (tCons (tX X.K .b fy) tNil))) : XE X .v e (eIdxA f fy) := weak h fun σ H Q ⟨ω, N, E, b, env, r, q⟩ => by
  refine ⟨ω, N, E, b, env, r, Tr.All_mono ((Tr.All_bind _ _ _ _).mp q) fun d c qa v H1 k1 o1 i1 => ?_⟩
  have i1 : InB X.K ω N H1 v d := i1
  cases d with
  | list ds =>
    obtain ⟨a, xs, rfl, ha, h1, no⟩ := InB.list2 i1 r.om
    refine ⟨.inl ⟨rfl, xs, .inl (.inl ha)⟩, ω, N, E, c, env, r.move k1 o1, Tr.All_mono ((Tr.All_bind _ _ _ _).mp qa) fun y c2 qb u H2 k2 o2 i2 => ?_⟩
    have i2 : InB X.K ω N H2 u y := i2
    have h2 : InAll X.K N H2 xs ds := h1.keep r.om k2
    have ha2 := k2 _ _ ha no
    unfold dIdxA at qb
    split at qb
    · rename_i hm
      have c3 : ds.all PyData.canLay0 = true ∧ y.canLay0 = true := by
        have := hm.1
        unfold inOk at this
        rw [Bool.and_eq_true, Bool.and_eq_true] at this
        exact ⟨this.2, this.1.1⟩
      exact ⟨a, xs, u, ds, y, rfl, rfl, .inl (.inl ha2), h2.dp (noDictAll c3.1), i2.dp (PyData.hasDict_of_canLay y c3.2), hm.1, hm.2, qb _ H2 (k1.trans k2) o2 (.int _)⟩
    · exact qb.elim
  | _ => exact qa.elim
end
end DL
end
section
set_option linter.all false
set_option maxRecDepth 100000
namespace DL
open PySem PySem.Spec PyProof.Rows L2
def dDivmod : List D → Option D
  | [.int i, .int j] => if 0 < j ∧ j < 1073741824 then some (.tuple [.int (i / j), .int (i % j)]) else none
  | _ => none
theorem c_divmod {X : Cx} : CallR X (.builtin "divmod") (rDn X.K dDivmod .v) := by
  intro pins s σ H xs us Q I rx ⟨ω, N, ds, d, om, dom, hx, hg, k⟩
  match ds, hg, hx with
  | [.int i, .int j], hg, hx =>
    obtain ⟨v, u, rfl, h, h2⟩ := InBs.two hx
    cases h.int
    cases h2.int
    simp only [dDivmod] at hg
    split at hg
    · rename_i hj
      cases hg
      cases rx with
      | cons r1 rt =>
        cases rt with
        | cons r2 r3 =>
          cases r3
          obtain ⟨t1, rfl⟩ := r1
          obtain ⟨t2, rfl⟩ := r2
          have hp : H s.heap.objs.size = none := I.hok.fresh (Nat.le_refl _)
          have e1 : i.fdiv j = i / j := Int.fdiv_eq_ediv_of_nonneg i (by omega)
          have e2 : i.fmod j = i % j := Int.fmod_eq_emod_of_nonneg i (by omega)
          refine PyProof.Rows.divmod_int (by omega) ?_ (.inl (PyProof.noPylong_small (by omega)))
          rw [e1, e2]
          have q : QT Q H [.int (i / j), .int (i % j)] := fun p o hp od => k _ _ (same_new hp) (In.newTup (.cons (.int _) (.cons (.int _) .nil)) hp dom od)
          exact q.at (I.tok (s.toks + 1 + 1)) (ws := [.int (i / j) s.toks, .int (i % j) (s.toks + 1)]) (.cons ⟨_, rfl⟩ (.cons ⟨_, rfl⟩ .nil)) (by show 2 ≤ sizeLine; decide)
    · cases hg
end DL
end
section
set_option linter.all false
set_option maxRecDepth 100000
namespace DL
open PySem PySem.Spec PyProof.Rows L2
def ins1 (x : Int) : List Int → List Int
  | [] => [x]
  | y :: ys => if x ≤ y then x :: y :: ys else y :: ins1 x ys
def srt : List Int → List Int
  | [] => []
  | x :: xs => ins1 x (srt xs)
theorem ins1_perm (x : Int) : ∀ ys, (ins1 x ys).Perm (x :: ys)
  | [] => List.Perm.refl _
  | y :: ys => by
    unfold ins1
    split
    · exact List.Perm.refl _
    · exact ((ins1_perm x ys).cons y).trans (List.Perm.swap ..)
theorem srt_perm : ∀ xs, (srt xs).Perm xs
  | [] => List.Perm.refl _
  | x :: xs => (ins1_perm x (srt xs)).trans ((srt_perm xs).cons x)
theorem ins1_sorted (x : Int) : ∀ {ys : List Int}, ys.Pairwise (· ≤ ·) → (ins1 x ys).Pairwise (· ≤ ·)
  | [], _ => List.pairwise_singleton _ _
  | y :: ys, h => by
    have h := List.pairwise_cons.mp h
    unfold ins1
    split
    · rename_i xy
      refine List.pairwise_cons.mpr ⟨fun z hz => ?_, List.pairwise_cons.mpr h⟩
      rcases List.mem_cons.mp hz with rfl | hz
      · exact xy
      · exact Int.le_trans xy (h.1 z hz)
    · rename_i xy
      refine List.pairwise_cons.mpr ⟨fun z hz => ?_, ins1_sorted x h.2⟩
      rcases List.mem_cons.mp ((ins1_perm x ys).mem_iff.mp hz) with rfl | hz
      · omega
      · exact h.1 z hz
theorem srt_sorted : ∀ xs, (srt xs).Pairwise (· ≤ ·)
  | [] => List.Pairwise.nil
  | x :: xs => ins1_sorted x (srt_sorted xs)
theorem sorted_uniq : ∀ {a b : List Int}, a.Pairwise (· ≤ ·) → b.Pairwise (· ≤ ·) → a.Perm b → a = b
  | [], b, _, _, p => p.nil_eq
  | x :: a, [], _, _, p => absurd p.symm.nil_eq (by simp)
  | x :: a, y :: b, ha, hb, p => by
    have ha := List.pairwise_cons.mp ha
    have hb := List.pairwise_cons.mp hb
    have e : x = y := by
      have h1 : x ∈ y :: b := p.mem_iff.mp List.mem_cons_self
      have h2 : y ∈ x :: a := p.mem_iff.mpr List.mem_cons_self
      rcases List.mem_cons.mp h1 with e | h1
      · exact e
      · rcases List.mem_cons.mp h2 with e | h2
        · exact e.symm
        · exact Int.le_antisymm (ha.1 y h2) (hb.1 x h1)
    subst e
    rw [sorted_uniq ha.2 hb.2 (List.Perm.cons_inv p)]
def dSort : List D → Option D
  | [.list es] => match dNums es with
    | some ns => if ns.length < 64 then some (.list ((srt ns).map .int)) else none
    | none => none
  | _ => none
theorem c_sort {X : Cx} : CallR X (.builtin "sorted") (rDn X.K dSort .o) := by
  intro pins s σ H xs us Q I rx ⟨ω, N, ds, d, om, dom, hx, hg, k⟩
  match ds, hg, hx with
  | [.list es], hg, hx =>
    obtain ⟨v, rfl, h⟩ := InBs.one hx
    obtain ⟨a, ys, rfl, ha, h1⟩ := h.list
    simp only [dSort] at hg
    cases e : dNums es with
    | none => rw [e] at hg; cases hg
    | some ns =>
      rw [e] at hg
      dsimp only at hg
      split at hg
      · rename_i hl
        cases hg
        have := h1.nums e
        subst this
        refine cr_sorted pins s σ H _ us Q I rx ⟨a, ns, rfl, .inl (.inl ha), hl, fun ns' p hp hs hf => ?_⟩
        have eq : ns' = srt ns := sorted_uniq hs (srt_sorted ns) (hp.trans (srt_perm ns).symm)
        subst eq
        have hi : InAll X.K N H ((srt ns).map V.int) ((srt ns).map PyData.int) := by
          generalize srt ns = l
          induction l with
          | nil => exact .nil
          | cons x l ih => exact .cons (.int x) ih
        exact k _ _ (same_new hf) (RK.newLst hi hf)
      · cases hg
end DL
end
section
set_option linter.all false
set_option maxRecDepth 100000
namespace DL
open PySem PySem.Spec PyProof.Rows L2
section
variable {X : Cx} {o e : Expr} {es : List Expr} {to : TE} {t : TA} {name : Str} {apos cpos : Pos} {id : String} {r : V → List V → Hp → VK → Prop}
end
end DL
end
section
set_option linter.all false
set_option maxRecDepth 100000
namespace DL
open PySem PySem.Spec PyProof.Rows L2 RZ
def zipD : List D → List D → List D
  | x :: xs, y :: ys => .tuple [x, y] :: zipD xs ys
  | [], _ => []
  | _ :: _, [] => []
theorem zip_len : ∀ (xs ys : List D), (zipD xs ys).length = min xs.length ys.length
  | [], _ => by simp [zipD]
  | _ :: _, [] => by simp [zipD]
  | x :: xs, y :: ys => by
    show (zipD xs ys).length + 1 = min (xs.length + 1) (ys.length + 1)
    rw [zip_len xs ys]
    omega
theorem zip_at : ∀ (xs ys : List D) (i : Nat) (x y : D), xs[i]? = some x → ys[i]? = some y → (zipD xs ys)[i]? = some (.tuple [x, y])
  | [], _, _, _, _, h, _ => by simp at h
  | _ :: _, [], _, _, _, _, h => by simp at h
  | a :: xs, b :: ys, 0, x, y, h, k => by
    have e1 : a = x := by simpa using h
    have e2 : b = y := by simpa using k
    subst e1 e2
    rfl
  | a :: xs, b :: ys, i + 1, x, y, h, k => zip_at xs ys i x y (by simpa using h) (by simpa using k)
section
variable {K : PySem.W.Frag} {N : Addr → Prop} {H : Hp} {a b : Addr} {ds es : List D}
end
section
variable {X : Cx} {k : Kd} {sTt : Stmt} {e : Expr}
end
section
variable {X : Cx} {e : Expr}
end
end DL
end
section
set_option linter.all false
set_option maxRecDepth 100000
namespace DL
open PySem PySem.Spec PyProof.Rows L2
def rIdxS (K : PySem.W.Frag) : V → List V → Hp → VK → Prop := fun x xs H Q => ∃ (a : Addr) (ys : List V) (y : V) (ds : List D) (d : D), x = V.ref a ∧ xs = [y] ∧ SqT K H a ys ∧ DpAll K H ys ds ∧ Dp K H y d ∧ inOk d ds = true ∧ memD d ds = true ∧ Q (.int ((ds.findIdx fun z => PyData.eqv z d : Nat))) H
theorem idx_true {f : D → Bool} : ∀ {ds : List D}, (ds.map f).idxOf true = ds.findIdx f
  | [] => rfl
  | d :: ds => by
    rw [List.map_cons, List.idxOf_cons, List.findIdx_cons, idx_true]
    cases f d <;> rfl
section
variable {X : Cx}
theorem mt_idxS (hu : X.A.units + 64 < cLine) : MtR X "tuple.index" (rIdxS X.K) := by
  intro pins s σ H x xs v us Q I rx rxs h
  obtain ⟨a, ys, y, ds, d, rfl, rfl, hs, hys, hy, hok, hm, q⟩ := h
  unfold inOk at hok
  rw [Bool.and_eq_true, Bool.and_eq_true] at hok
  obtain ⟨⟨c1, c2⟩, c3⟩ := hok
  cases rx
  cases rxs with
  | cons ry rt =>
    rename_i uy ut
    cases rt
    obtain ⟨its, rv, ht, hz⟩ := I.tuple hs
    obtain ⟨as, r1⟩ := Dp.readsAll I ds ys its hys rv
    obtain ⟨bs, r2⟩ := Dp.reads I d y uy hy ry
    have hl := readsAll_len r1
    refine PySem.SeqAt.call_tuple_index (ks := ds.map fun z => PyData.eqv z d) (k := true) (show s.heap.IsTuple a its.toArray from ht) ⟨by rw [List.length_map]; exact hl, fun j h1 h2 => ?_⟩ ?_ ?_
    · have h3 : j < ds.length := by rw [List.length_map] at h2; exact h2
      have e := eq_all I r1 r2 c1 (of_decide_eq_true c2) c3 hu its[j] (List.getElem_mem h1)
      rw [eqW_at r1 (List.getElem?_eq_getElem h1) (List.getElem?_eq_getElem h3)] at e
      have z : decide ((ds.map fun z => PyData.eqv z d)[j] = true) = PyData.eqv ds[j] d := by
        rw [List.getElem_map]
        cases PyData.eqv ds[j] d <;> rfl
      rw [z]
      exact e
    · unfold memD at hm
      obtain ⟨z, hz1, hz2⟩ := List.any_eq_true.mp hm
      exact List.mem_map.mpr ⟨z, hz1, hz2⟩
    · rw [idx_true]
      exact ⟨.int _, H, I.tok _, ⟨_, rfl⟩, q⟩
variable {o e : Expr} {es : List Expr} {to : TE} {t : TA} {name : Str} {apos cpos : Pos} {i1 i2 : String} {r1 r2 : V → List V → Hp → VK → Prop}
/-- a method of a list, or the one of the same name of a tuple -/
def tSqM (K : PySem.W.Frag) (r1 r2 : V → List V → Hp → VK → Prop) (to : TE) (t : TA) : TE := fun σ H Q => to σ H fun x H1 =>
  (tyV K "list" x H1 ∧ t σ H1 fun xs H2 => r1 x xs H2 Q) ∨ ((∃ a vs, x = .ref a ∧ (TupO H1 a vs ∨ TK K a vs)) ∧ t σ H1 fun xs H2 => r2 x xs H2 Q)
theorem pe_sqM (sl1 : PySem.Slot "list" name i1) (ty1 : typeOf (.builtin i1) = pure (.type "method_descriptor")) (m1 : MtR X i1 r1)
    (sl2 : PySem.Slot "tuple" name i2) (ty2 : typeOf (.builtin i2) = pure (.type "method_descriptor")) (m2 : MtR X i2 r2) (po : PE X o to) (ha : PA X (e :: es) t)
    (base : attributeBase o name X.env (eval o X.env) = eval o X.env := by rfl)
    (few : ((backTo cpos (starEach (e :: es) X.env)).all (fun x => !x.1) && (backToKw cpos (keywordEach [] X.env)).all (fun x => x.1.isSome) && decide ((e :: es).length + ([] : List Keyword).length + (if ([] : List Keyword).isEmpty then 0 else 1) < 30)) = true := by rfl)
    (line : (apos.endLine == cpos.line) = true := by rfl) (st : starEach (e :: es) X.env = (false, eval e X.env) :: starEach es X.env := by rfl) (pl : (backTo cpos (starEach es X.env)).any (·.1) = false := by rfl) :
    PE X (.Call (.Attribute o name apos) (e :: es) [] cpos) (tSqM X.K r1 r2 to t) :=
  ⟨fun pins s σ H Q I h => wpAny_Call_method_late base few line rfl (thn (po.run pins s σ H _ I h) fun v s1 ⟨x, H1, I1, rx, q⟩ => by
    rcases q with ⟨ty, q⟩ | ⟨⟨a, vs, ex, hp⟩, q⟩
    · obtain ⟨z1, z2⟩ := tyV_is I1 rx ty
      have args := ha.run cpos pins s1 σ H1 _ I1 q
      rw [st] at args
      refine ⟨"list", i1, PySem.F.plainAttrs_list, sl1, ty1, z1, z2, ?_⟩
      rw [st]
      refine Calls.callWith_builtin (by show (false || (backTo cpos (starEach es X.env)).any (·.1)) = false; rw [pl] <;> rfl) (Calls.evalArgs_plain ?_)
      exact thn args fun us s2 ⟨ws, H2, I2, rs, q2⟩ => m1 pins s2 σ H2 _ ws _ us Q I2 rx rs q2
    · subst ex
      have r0 := rx
      cases rx
      obtain ⟨ob, ho, hc, hn⟩ := tuple_obj I1 hp
      have args := ha.run cpos pins s1 σ H1 _ I1 q
      rw [st] at args
      refine ⟨"tuple", i2, PySem.F.plainAttrs_tuple, sl2, ty2, ⟨_, ho, hc⟩, fun b eb => ?_, ?_⟩
      · cases eb
        exact ⟨_, ho, hn⟩
      · rw [st]
        refine Calls.callWith_builtin (by show (false || (backTo cpos (starEach es X.env)).any (·.1)) = false; rw [pl] <;> rfl) (Calls.evalArgs_plain ?_)
        exact thn args fun us s2 ⟨ws, H2, I2, rs, q2⟩ => m2 pins s2 σ H2 _ ws _ us Q I2 r0 rs q2)⟩
def eIdxM (f fy : FE) : FE := fun env => (f env).bind fun d => match d with
  | .list ds => (fy env).bind fun y => Tr.ofOpt (dIdxA ds y)
  | .tuple ds => (fy env).bind fun y => Tr.ofOpt (dIdxA ds y)
  | _ => .fail
theorem noDict1 {y : D} {ds : List D} (h : inOk y ds = true) : y.hasDict = false := by
  unfold inOk at h
  rw [Bool.and_eq_true, Bool.and_eq_true] at h
  exact PyData.hasDict_of_canLay y h.1.1
theorem noDict2 {y : D} {ds : List D} (h : inOk y ds = true) : PyData.hasDictAll ds = false := by
  unfold inOk at h
  rw [Bool.and_eq_true, Bool.and_eq_true] at h
  exact noDictAll h.2
theorem InB.tuple2 {K : PySem.W.Frag} {ω : Option Om} {N : Addr → Prop} {H : Hp} {v : V} {ds : List D} (h : InB K ω N H v (.tuple ds)) : In K N H v (.tuple ds) := by
  rcases h with h | ⟨_, _, _, h⟩
  · exact h
  · exact h.elim
theorem tupKeep {K : PySem.W.Frag} {ω : Option Om} {N : Addr → Prop} {H : Hp} {v : V} {ds : List D} (h : In K N H v (.tuple ds)) (om : ∀ x, OmAt ω x → N x) : ∃ a xs, v = .ref a ∧ (TupO H a xs ∨ TK K a xs) ∧ InAll K N H xs ds ∧ ∀ H2, Keep ω H H2 → SqT K H2 a xs := by
  cases h with
  | tup n r h =>
    have r0 := r
    obtain ⟨o, r, z⟩ := r
    exact ⟨_, _, rfl, .inl r0, h, fun H2 k => .inl (.inr ⟨o, k _ _ r fun z => n (om _ z)⟩)⟩
  | tupK r h => exact ⟨_, _, rfl, .inr r, h, fun H2 k => r.seq⟩
theorem xe_idxM {f fy : FE} (h : PE X e (tSqM X.K (rIdxD X.K) (rIdxS X.K) (tX X.K .b f) (tCons (tX X.K .b fy) tNil))) : XE X .v e (eIdxM f fy) := weak h fun σ H Q ⟨ω, N, E, b, env, r, q⟩ => by
  refine ⟨ω, N, E, b, env, r, Tr.All_mono ((Tr.All_bind _ _ _ _).mp q) fun d c qa v H1 k1 o1 i1 => ?_⟩
  have i1 : InB X.K ω N H1 v d := i1
  cases d with
  | list ds =>
    obtain ⟨a, xs, rfl, ha, h1, no⟩ := InB.list2 i1 r.om
    refine .inl ⟨.inl ⟨rfl, xs, .inl (.inl ha)⟩, ω, N, E, c, env, r.move k1 o1, Tr.All_mono ((Tr.All_bind _ _ _ _).mp qa) fun y c2 qb u H2 k2 o2 i2 => ?_⟩
    have i2 : InB X.K ω N H2 u y := i2
    unfold dIdxA at qb
    split at qb
    · rename_i hk
      exact ⟨a, xs, u, ds, y, rfl, rfl, .inl (.inl (k2 _ _ ha no)), (h1.keep r.om k2).dp (noDict2 hk.1), i2.dp (noDict1 hk.1), hk.1, hk.2, qb _ H2 (k1.trans k2) o2 (.int _)⟩
    · exact qb.elim
  | tuple ds =>
    obtain ⟨a, xs, rfl, ht, h1, hT⟩ := tupKeep i1.tuple2 r.om
    refine .inr ⟨⟨a, xs, rfl, ht⟩, ω, N, E, c, env, r.move k1 o1, Tr.All_mono ((Tr.All_bind _ _ _ _).mp qa) fun y c2 qb u H2 k2 o2 i2 => ?_⟩
    have i2 : InB X.K ω N H2 u y := i2
    unfold dIdxA at qb
    split at qb
    · rename_i hk
      exact ⟨a, xs, u, ds, y, rfl, rfl, hT _ k2, (h1.keep r.om k2).dp (noDict2 hk.1), i2.dp (noDict1 hk.1), hk.1, hk.2, qb _ H2 (k1.trans k2) o2 (.int _)⟩
    · exact qb.elim
  | _ => exact qa.elim
end
end DL
end
section
set_option linter.all false
set_option maxRecDepth 100000
namespace DL
open PySem PySem.Spec PyProof.Rows L2
section
variable {prog : Program} {w : World} {A : Around} {E : Value → Shared → Prop} {s : Shared}
theorem sorted_tup {l : Addr} {ws : List Value} {ms : List Int} {Q : Value → Shared → Prop} (ht : s.heap.IsTuple l ws.toArray) (hI : IntsAre ws ms) (few : ws.length < 64)
    (h : ∀ (g : Heap) (out : Array Value) (ns : List Int), (∀ b o, s.heap.get? b = some o → g.get? b = some o) → IntsAre out.toList ns → ns.Perm ms → ns.Pairwise (· ≤ ·) → Q (.ref g.objs.size) { s with heap := sortedHeap (g.push (seqObj "list" ws.toArray 0)) g.objs.size ws out }) :
    wpAny (model prog w) A (call (.builtin "sorted") [.ref l]) Q E s := by
  obtain ⟨o, ho, hc, n, hd⟩ := ht
  refine Calls.call_function_entry kind_sorted plain_sorted entry_sorted (args_sorted1 _) ?_
  unfold Builtin.«sorted»
  refine wpAny_bind (m := checkCount "sorted" 1 1 _) (wpAny_pure ?_)
  refine wpAny_bind (PySem.wpAny_collect_seq l (.inr rfl) ho hc hd (fun g kp => ?_) (by rw [List.size_toArray, sizeLine_eq]; omega))
  rw [show ws.toArray.toList = ws by simp]
  refine wpAny_bind (wpAny_newList ?_ (by rw [sizeLine_eq]; omega))
  have at_ : (g.push (seqObj "list" ws.toArray 0)).get? g.objs.size = some (seqObj "list" ws.toArray 0) := Heap.get?_push_size _ rfl
  show wpAny _ _ _ _ _ { s with heap := g.push (seqObj "list" ws.toArray 0) }
  refine wpAny_bind (wpAny_holding (wpAny_call_entry slot_list_sort ⟨_, at_, rfl⟩ entry_list_sort (list_sort_tree at_ hI few fun out ns a1 a2 a3 => ⟨_, rfl, ?_⟩) (args_list_sort _)))
  exact wpAny_pure ⟨_, rfl, h g out ns kp a1 a2 a3⟩
end
def isTupB : D → Bool
  | .tuple (_ :: _) => true
  | _ => false
def sortOk (es : List D) : Bool := es.all (fun d => isTupB d && d.canLay0 && decide (d.depth ≤ 60) && es.all fun e => PySem.W.alike d e) && decide (es.length ≤ 1000)
def dSortA : List D → Option D
  | [.list es] => match dNums es with
    | some ns => if ns.length < 64 then some (.list ((srt ns).map .int)) else none
    | none => if sortOk es = true then some (.list (es.mergeSort (PySem.W.dataLe false id))) else none
  | [.tuple es] => match dNums es with
    | some ns => if ns.length < 64 then some (.list ((srt ns).map .int)) else none
    | none => none
  | _ => none
theorem each_reads {h : Heap} : ∀ {us : List Value} {ds : List D} {as : List Addr}, ReadsAll h us ds as → PySem.W.EachIs (fun v b => ∃ as, Reads h v (id b) as) us ds
  | _, _, _, .nil => .nil
  | _, _, _, .cons r rs => .cons ⟨_, r⟩ (each_reads rs)
theorem each_in {K : PySem.W.Frag} {N : Addr → Prop} {H : Hp} : ∀ {xs : List V} {us : List Value} {ds : List D}, Vals xs us → InAll K N H xs ds → PySem.W.EachIs (fun v b => ∃ x, RelV x v ∧ In K N H x b) us ds
  | _, _, _, .nil, .nil => .nil
  | _, _, _, .cons r rs, .cons h hs => .cons ⟨_, r, h⟩ (each_in rs hs)
theorem in_each {K : PySem.W.Frag} {N : Addr → Prop} {H : Hp} : ∀ {us : List Value} {ds : List D}, PySem.W.EachIs (fun v b => ∃ x, RelV x v ∧ In K N H x b) us ds → ∃ xs, Vals xs us ∧ InAll K N H xs ds
  | _, _, .nil => ⟨[], .nil, .nil⟩
  | _, _, .cons ⟨x, r, h⟩ hs => by
    obtain ⟨xs, r2, h2⟩ := in_each hs
    exact ⟨x :: xs, .cons r r2, .cons h h2⟩
theorem c_sortA {X : Cx} (hu : X.A.units + 64 < cLine) : CallR X (.builtin "sorted") (rDn X.K dSortA .o) := by
  intro pins s σ H xs us Q I rx ⟨ω, N, ds, d, om, dom, hx, hg, k⟩
  match ds, hg, hx with
  | [.list es], hg, hx =>
    cases en : dNums es with
    | some ns =>
      refine c_sort pins s σ H xs us Q I rx ⟨ω, N, [.list es], d, om, dom, hx, ?_, k⟩
      simp only [dSortA, en] at hg
      simp only [dSort, en]
      exact hg
    | none =>
      simp only [dSortA, en] at hg
      split at hg
      · rename_i ok
        cases hg
        unfold sortOk at ok
        rw [Bool.and_eq_true, decide_eq_true_eq, List.all_eq_true] at ok
        obtain ⟨ok, few⟩ := ok
        have ok : ∀ d ∈ es, isTupB d = true ∧ d.canLay0 = true ∧ d.depth ≤ 60 ∧ ∀ e ∈ es, PySem.W.alike d e = true := fun d hd => by
          have q := ok d hd
          rw [Bool.and_eq_true, Bool.and_eq_true, Bool.and_eq_true, decide_eq_true_eq, List.all_eq_true] at q
          exact ⟨q.1.1.1, q.1.1.2, q.1.2, q.2⟩
        obtain ⟨v, rfl, h⟩ := InBs.one hx
        obtain ⟨a, ys, rfl, ha, h1⟩ := h.list
        obtain ⟨its, rv, hl, hz⟩ := I.list (.inl (.inl ha))
        have lay : es.all PyData.canLay0 = true := List.all_eq_true.mpr fun d hd => (ok d hd).2.1
        obtain ⟨as, r1⟩ := Dp.readsAll I es ys its (h1.dp (noDictAll lay)) rv
        rw [Vals.ref1 rx]
        refine PySem.W.sorted_data (enc := id) (bs := es) hl.isList (each_in rv h1) (each_reads r1) ?_ ?_ (Nat.le_trans few (by rw [sizeLine_eq]; decide)) (fun b hb => ?_) fun out ho eo => ?_
        · rw [List.map_id]
          exact fun d hd d' hd' => (ok d hd).2.2.2 d' hd'
        · rw [List.map_id]
          refine .inl fun d hd => ?_
          have q := (ok d hd).1
          unfold isTupB at q
          split at q
          · exact ⟨_, _, rfl⟩
          · cases q
        · have q := (ok b hb).2.2.1
          show X.A.units + 2 + b.depth < cLine
          omega
        · obtain ⟨zs, rz, hzs⟩ := in_each eo
          obtain ⟨ep, he'⟩ := PyProof.Rows.sortedAll_at s.heap its out.toArray
          have hn : H (s.heap.objs.size + 1) = none := I.hok.fresh (Nat.le_succ _)
          have hlen : zs.length ≤ sizeLine := by
            rw [hzs.length, List.length_mergeSort]
            exact Nat.le_trans few (by rw [sizeLine_eq]; decide)
          exact ⟨.ref _, upd H (s.heap.objs.size + 1) (.lst zs), I.laid (t' := s.toks) (fun _ _ => PyProof.Rows.sortedAll_old) (Nat.le_succ _) ⟨hlen, out, ep, rz, he'⟩, rfl, k _ _ (same_new hn) (RK.newLst hzs hn)⟩
      · cases hg
  | [.tuple es], hg, hx =>
    cases en : dNums es with
    | none => simp only [dSortA, en] at hg; cases hg
    | some ns =>
      simp only [dSortA, en] at hg
      split at hg
      · rename_i few
        cases hg
        obtain ⟨v, rfl, h⟩ := InBs.one hx
        obtain ⟨a, ys, rfl, ha, h1⟩ := h.tuple
        have e := h1.nums en
        subst e
        obtain ⟨its, rv, ht, hz⟩ := I.tuple ha
        rw [Vals.ref1 rx]
        have hi := rv.ints
        refine sorted_tup (show s.heap.IsTuple a its.toArray from ht) hi (by rw [hi.length]; exact few) fun g out ns' kp a1 a2 a3 => ?_
        have eq : ns' = srt ns := sorted_uniq a3 (srt_sorted ns) (a2.trans (srt_perm ns).symm)
        subst eq
        have I1 : Inv X pins σ H { s with heap := g } := I.kept (t' := s.toks) kp
        have hn : H g.objs.size = none := I1.hok.fresh (Nat.le_refl _)
        obtain ⟨ep, he'⟩ := PyProof.Rows.sortedHeap_at (h := g.push (seqObj "list" its.toArray 0)) (a := g.objs.size) (n := 0) (vs := its) (out := out) (Heap.get?_push_size _ rfl)
        have hlen : ((srt ns).map V.int).length ≤ sizeLine := by
          rw [List.length_map, (srt_perm ns).length_eq, sizeLine_eq]
          omega
        have hi2 : InAll X.K N H ((srt ns).map V.int) ((srt ns).map PyData.int) := by
          generalize srt ns = l
          induction l with
          | nil => exact .nil
          | cons x l ih => exact .cons (.int x) ih
        refine ⟨.ref _, upd H g.objs.size (.lst ((srt ns).map V.int)), I1.laid (t' := s.toks) (fun b o e => ?_) (Nat.le_refl _) ⟨hlen, out.toList, ep, vals_of_ints a1, he'⟩, rfl, k _ _ (same_new hn) (RK.newLst hi2 hn)⟩
        have hlt : b < g.objs.size := Heap.lt_size e
        rw [PyProof.Rows.sortedHeap_old (Nat.ne_of_lt hlt) (by rw [size_push']; exact Nat.lt_succ_of_lt hlt), Heap.get?_push_ne _ _ _ (Nat.ne_of_lt hlt)]
        exact e
      · cases hg
end DL
end
section
set_option linter.all false
set_option maxRecDepth 100000
namespace DL
open PySem PySem.Spec PyProof.Rows L2
inductive OutE where
  | o (x : Out)
  | ex (c : Str) (d : D)
abbrev FSE := Ev → Tr OutE
/-- what a def that may raise ends with -/
inductive RetE where
  | v (d : D)
  | ex (c : Str) (d : D)
/-- the field of each class of errors -/
def erF (c : Str) : Option Str := (([("BadCords", "value"), ("BadFigure", "place"), ("BadRow", "number"), ("BadNumber", "value"), ("BadPaper", "word"), ("TooGreat", "most"), ("BadColours", "number"), ("BadSum", "number"), ("BadFamily", "number")] : List (Str × Str)).lookup c)
section
variable (K : PySem.W.Frag) (mg : Str → Option Value)
end
def liftE (f : FS) : FSE := fun env => (f env).bind fun o => .ret (.o o)
def sSeqE (f g : FSE) : FSE := fun env => (f env).bind fun o => match o with
  | .o (.nx env') => g env'
  | o => .ret o
def sIfE (c : FT) (f g : FSE) : FSE := fun env => (c env).bind fun b => if b = true then f env else g env
def sRaise (nm : Str) (f : FE) : FSE := fun env => (f env).bind fun d => .ret (.ex nm d)
section
variable {X : Cx} {W : WX} {k : Kd} {st : Stmt} {rest : List Stmt} {f g : FSE} {pos : Pos}
end
structure FnGE (P : Program) (w : World) (K : PySem.W.Frag) (mg : Str → Option Value) (base : Heap) (k : Nat) (f : Addr) (fd : FuncData) (ps : List Str) (sp : Sp) : Prop where
  len : ∀ vs H Q E, sp vs H Q E → vs.length = ps.length
  go : ∀ {A : Around}, A.guards = some [] → Room k A → ∀ {outer : List Env} {s : Shared} {H : Hp} {args : Args} {us : List Value} {vs : List V} {Q : VK} {E : XK}, Env0 P w K mg base A outer s H → BindsTo s fd args (ps.zip us) → Vals vs us → sp vs H Q E →
    codeAny (model P w) A (.call (.ref f) args) (CR (L2.CX P w) outer P w H s Q E) s
def fnE (n : Nat) (k : Kd) (fb : FSE) (ss : List Slot) : Tr RetE := (fb (startE n ss)).bind fun o => match o with
  | .o (.rv d) => .ret (.v d)
  | .o (.nx _) => match k with
    | .v => .ret (.v .none)
    | _ => .fail
  | .ex nm d => .ret (.ex nm d)
  | _ => .fail
structure CalE (P : Program) (w : World) (K : PySem.W.Frag) (mg : Str → Option Value) (base : Heap) (x : Str) (j : Nat) (ps : List Str) (sp : Sp) : Prop where
  ex : ∃ f fd, FnGE P w K mg base j f fd ps sp ∧ L2.Binds K fd ps [] ∧ mg x = some (.ref f) ∧ PySem.W.keepIn K (.ref f) = true
section
variable {X : Cx} {e : Expr} {es : List Expr} {pos : Pos}
end
section
variable {X : Cx} {W : WX} {k : Kd} {e : Expr} {f : FE} {pos : Pos}
end
end DL
end
section
set_option linter.all false
set_option maxRecDepth 100000
namespace DL
open PySem PySem.Spec PyProof.Rows L2
/-- self.f = v, of a fresh error -/
def spInit (K : PySem.W.Frag) (f : Str) : Sp := fun vs H Q _ => ∃ (a C : Addr) (v : V), vs = [.ref a, v] ∧ OexC K C ∧ PySem.W.findIn K (.ref C) f = some none ∧ H a = some (exo a C none) ∧
  ∀ dx, H dx = none → dx ≠ a → Q .non (upd (upd H dx (exd dx [(f, v)])) a (exo a C (some dx)))
/-- what is known of a class of errors -/
structure ErC (P : Program) (w : World) (K : PySem.W.Frag) (mg : Str → Option Value) (base : Heap) (nm : Str) : Prop where
  ex : ∃ (C fI : Addr) (fd : FuncData) (f p : Str), erF nm = some f ∧ mg nm = some (.ref C) ∧ OexC K C ∧ PySem.W.findIn K (.ref C) "__init__" = some (some (.ref fI)) ∧ PySem.W.typeIn K (.ref fI) = some (.type "function") ∧ PySem.W.findIn K (.ref C) f = some none ∧
    FnOk P w K mg base CX0 1 fI fd ["self", p] (spInit K f) ∧ L2.Binds K fd ["self", p] []
section
variable {X : Cx} {W : WX} {k : Kd} {e : Expr} {fe : FE} {p pos pos' : Pos} {nm : Str}
end
end DL
end
section
set_option linter.all false
set_option maxRecDepth 100000
namespace DL
open PySem PySem.Spec PyProof.Rows L2
abbrev Clause := Value × (Addr → Value → Option Addr → TS)
inductive AsHds (X : Cx) (n : Str) : List ExceptHandler → List Clause → Prop
  | nil : AsHds X n [] []
  | cons {x : Str} {c : Value} {ts : Addr → Value → Option Addr → TS} {st : Stmt} {sts : List Stmt} {np ps : Pos} {more : List ExceptHandler} {l : List Clause} (named : Names X x c)
      (su : ∀ (e : Addr) (o : Obj) (T : Value) (dd : Option Addr) (pn : List (Addr × Obj)), Zc T dd o → (∃ vs, o.data = .fields vs) → PSs (X.suite e ((e, o) :: pn)) (st :: sts) (ts e T dd)) (rest : AsHds X n more l) :
      AsHds X n (.ExceptHandler (some (.Name x np)) (some n) (st :: sts) ps :: more) ((c, ts) :: l)
section
variable {X : Cx} {n : Str} {i : Nat} {body : List Stmt} {first : ExceptHandler} {more : List ExceptHandler} {l : List Clause} {pos : Pos} {tb : WX → TS} {W0 : WX}
end
end DL
end
section
set_option linter.all false
set_option maxRecDepth 100000
namespace DL
open PySem PySem.Spec PyProof.Rows L2
/-- class, field, word: in the order of the clauses -/
def ears : List (Str × Str × Str) := [("BadCords", "value", "cords"), ("BadFigure", "place", "figure"), ("BadRow", "number", "row"), ("BadNumber", "value", "number"), ("BadPaper", "word", "paper"), ("TooGreat", "most", "great")]
/-- what the clauses ask of the classes -/
structure EarC (K : PySem.W.Frag) (mg : Str → Option Value) : Prop where
  at_ : ∀ e ∈ ears, ∃ C, mg e.1 = some (.ref C) ∧ XfC K C ∧ PySem.W.findIn K (.ref C) e.2.1 = some none
  hit : ∀ e ∈ ears, ∀ e' ∈ ears, ∀ C C', mg e.1 = some (.ref C) → mg e'.1 = some (.ref C') → PySem.W.exmOne K (.ref C) (.ref C') = some (decide (e.1 = e'.1))
/-- a clause's suite: found = (word, error.field) -/
def earS (w f : Str) (q : Nat → Pos) : List Stmt := [.Assign [.Name "found" (q 0)] (.Tuple [.Constant (.str w) 0 (q 1), .Attribute (.Name "error" (q 2)) f (q 3)] 0 (q 4)) (q 5)]
def earH (c f w : Str) (q : Nat → Pos) : ExceptHandler := .ExceptHandler (some (.Name c (q 6))) (some "error") (earS w f q) (q 7)
def earNs : List Str := ["call", "found", "error"]
section
variable {X : Cx} {p : Nat → Nat → Pos} {r : Nat → Pos}
/-- the body of the ear -/
def earB (p : Nat → Nat → Pos) (r : Nat → Pos) : List Stmt :=
  [.Assign [.Name "found" (r 0)] (.Constant .none 0 (r 1)) (r 2),
   .Try [.Expr (.Call (.Name "call" (r 3)) [] [] (r 4)) (r 5)] [earH "BadCords" "value" "cords" (p 0), earH "BadFigure" "place" "figure" (p 1), earH "BadRow" "number" "row" (p 2), earH "BadNumber" "value" "number" (p 3), earH "BadPaper" "word" "paper" (p 4), earH "TooGreat" "most" "great" (p 5)] [] [] (r 6),
   .Return (some (.Name "found" (r 7))) (r 8)]
/-- a class's address -/
def clsAt (mg : Str → Option Value) (c : Str) : Addr := match mg c with
  | some (.ref C) => C
  | _ => 0
end
end DL
end
section
set_option linter.all false
set_option maxRecDepth 100000
namespace DL
open PySem PySem.Spec PyProof.Rows L2 LamX
/-- its scope: one local name y, which no slot of the maker bears -/
structure LamD (Ns : List Str) (outerS scope : Scope) (y : Str) : Prop where
  kind : scope.kind = .function
  co : scope.isCoroutine = false
  gen : scope.isGenerator = false
  noCell : ∀ z ∈ scope.names, z.2 ≠ .cell
  loc : scope.names.lookup y = some .local
  other : ∀ x ∈ Ns, scope.names.lookup x ≠ some .local
  free : ∀ z ∈ scope.names, z.2 = .free → outerS.names.lookup z.1 = some .cell ∨ outerS.names.lookup z.1 = some .free
abbrev lamQ (X : Cx) : Str := X.env.qual ++ "<lambda>"
abbrev lamC (X : Cx) (scope : Scope) : List (Str × Addr) := cloFrom X.env.cells scope.names []
abbrev lamFd (X : Cx) (params : Arguments) (body : Expr) (scope : Scope) (dv doc pm cd ctv : Value) : FuncData := PySem.W.kdv_fn "<lambda>" (lamQ X) params (.expr body) scope (lamC X scope) dv doc pm cd ctv
abbrev lamOb (X : Cx) (params : Arguments) (body : Expr) (scope : Scope) (dv doc pm cd ctv : Value) : Obj := { cls := .type "function", data := .func (lamFd X params body scope dv doc pm cd ctv) }
section
variable {X : Cx} {pins : List (Addr × Obj)} {σ : L2.St} {H : Hp} {s : Shared}
theorem LamD.caught {scope : Scope} {y : Str} (L : LamD X.N X.env.scope scope y) (ok : X.Ok) : ∀ z ∈ scope.names, z.2 = .free → ∃ c, X.env.cells.lookup z.1 = some c := fun z mz e => (L.free z mz e).elim (fun k => ok.has _ (.inl k)) fun k => ok.has _ (.inr k)
/-- behind the heap's size no frame stands -/
theorem noFrame (I : Inv X pins σ H s) {f : Addr} (hf : s.heap.objs.size ≤ f) : f ∉ frs X.stack := fun mem => by
  have below : X.env.locals < s.heap.objs.size := I.lt
  rcases List.mem_cons.mp (I.stkSub _ mem) with eq | mem
  · rw [eq] at hf
    exact absurd below (Nat.not_lt_of_le hf)
  · exact I.nofs hf mem
/-- all but the table at P stays -/
def ExtP (P : Addr) (H H' : Hp) : Prop := ∀ b o, H b = some o → b ≠ P → H' b = some o
/-- where the lambda and the tuple of its default have been made -/
def MadeD (P : Addr) (X : Cx) (pins : List (Addr × Obj)) (σ : L2.St) (T : List (Addr × Str)) (H : Hp) (params : Arguments) (body : Expr) (scope : Scope) (i : Int) (Q : Value → Shared → Prop) : Prop :=
  ∀ (f t c' : Addr) (u doc pm ctv : Value) (H1 : Hp) (s' : Shared), Inv X pins σ H1 s' → ExtP P H H1 → Tabs T H1 → L2.RelV (.int i) u → s'.heap.get? t = some (PySem.W.kdv_tup [u]) → s'.heap.get? f = some (lamOb X params body scope (.ref t) doc pm (.ref c') ctv) →
    H1 f = none → H1 t = none → f ∉ frs X.stack → t ∉ frs X.stack → H1 c' = some (CodeO c' (lamQ X)) → Q (.ref f) s'
theorem lamD_make {T : List (Addr × Str)} {c P : Addr} {params : Arguments} {body : Expr} {scope : Scope} {pos p0 : Pos} {y : Str} {i : Int} {j : Nat} {E : Value → Shared → Prop} {Q : Value → Shared → Prop} (I : Inv X pins σ H s) (L : LamD X.N X.env.scope scope y) (TB : TabB X.base X.mg c P) (code : X.env.code = .ref c)
    (mT : (P, lamQ X) ∈ T) (only : ∀ p ∈ T, p.1 = P → p.2 = lamQ X) (hT : Tabs T H) (d1 : params.defaults = [.Constant (.int i) j p0]) (d2 : params.kw_defaults = []) (made : MadeD P X pins σ T H params body scope i Q) :
    wpAny (model X.prog X.w) X.A (eval (.Lambda params body scope pos) X.env) Q E s := by
  refine PySem.W.kdv_lam (by rw [d1]; rfl) d2 ?_
  rw [d1]
  refine PySem.W.kdv_all1 ?_
  refine thn ((pe_int (X := X) (i := i) (j := j) (pos := p0)).run pins s σ H (fun v H1 => v = .int i ∧ H1 = H) I ⟨rfl, rfl⟩) fun u s0 got => ?_
  obtain ⟨v0, H0, I0, rel, rfl, rfl⟩ := got
  refine PySem.W.kdv_all0 ?_
  rw [makeFunction_eq]
  simp only [List.zip_nil_right, List.filterMap_nil, List.isEmpty_nil, if_true, pure_bind, List.isEmpty_cons, Bool.false_eq_true, if_false]
  refine wpAny_bind (wpAny_newTextTuple ?_)
  obtain ⟨ps, hP, ok3, among⟩ := hT _ mT
  have tabAt : s0.heap.get? P = some { cls := .none, data := .fields ps } := I0.hok P _ hP
  have push : ∀ b o, s0.heap.get? b = some o → (s0.heap.push (PySem.W.kdv_tup [u])).get? b = some o := fun b o e => Heap.get?_push_of_some _ e
  have clo := closure_ok (L.caught I0.ok)
  have glo : s0.heap.Ns mainGlobals X.mg := I0.mod.glob.keeps I0.bk
  have cod : PySem.W.CodeHd s0.heap c P := TB.code.keeps I0.bk
  have blt : s0.heap.BuiltinsAt X.mg P := TB.bm.keeps I0.bk
  have blt' : (s0.heap.push (PySem.W.kdv_tup [u])).BuiltinsAt X.mg P := blt.keeps push
  have tIs : (s0.heap.push (PySem.W.kdv_tup [u])).get? s0.heap.objs.size = some (PySem.W.kdv_tup [u]) := Heap.get?_push_size _ rfl
  have szT : (s0.heap.push (PySem.W.kdv_tup [u])).objs.size = s0.heap.objs.size + 1 := Heap.size_push ..
  have freeAt : ∀ b, s0.heap.objs.size ≤ b → H0 b = none := fun b hb => I0.hok.fresh hb
  have tP : s0.heap.objs.size ≠ P := Nat.ne_of_gt (Heap.lt_size tabAt)
  cases known : codeAmong pos ps.toList with
  | some cv =>
    obtain ⟨c', rfl, isC⟩ := among pos cv known
    refine PySem.W.kdv_makeTailHit (s := { s0 with heap := s0.heap.push (PySem.W.kdv_tup [u]) }) (mg := X.mg) clo I0.ok.glob (glo.keeps push) code (cod.keeps push) (push _ _ tabAt) ok3 known blt' fun ctv doc h' tk kp sz => ?_
    have I1 : Inv X pins σ H0 { s0 with heap := h'.push (lamOb X params body scope (.ref s0.heap.objs.size) doc ((X.mg "__name__").getD .none) (.ref c') ctv), toks := tk } := I0.kept fun b o e => Heap.get?_push_of_some _ (kp b o (push b o e))
    have far : s0.heap.objs.size ≤ h'.objs.size := by
      have sz : (s0.heap.push (PySem.W.kdv_tup [u])).objs.size ≤ h'.objs.size := sz
      omega
    exact made _ _ c' u doc _ ctv H0 _ I1 (fun _ _ e _ => e) hT rel (Heap.get?_push_of_some _ (kp _ _ tIs)) (Heap.get?_push_size _ rfl) (freeAt _ far) (freeAt _ (Nat.le_refl _)) (noFrame I0 far) (noFrame I0 (Nat.le_refl _)) isC
  | none =>
    refine PySem.W.kdv_makeTail (s := { s0 with heap := s0.heap.push (PySem.W.kdv_tup [u]) }) (mg := X.mg) clo I0.ok.glob (glo.keeps push) code (cod.keeps push) (push _ _ tabAt) ok3 known TB.gP blt' fun c' ctv doc h' tk kp ge lt named grown => ?_
    obtain ⟨c2, oc, vs, tx, same2, atC, isF, isQ⟩ := named
    cases same2
    have ge : s0.heap.objs.size + 1 ≤ c' := by
      rw [← szT]
      exact ge
    have lt : c' < h'.objs.size := lt
    let row : Array Value := #[rawInt pos.line, rawInt pos.col, .ref c']
    let last : Obj := lamOb X params body scope (.ref s0.heap.objs.size) doc ((X.mg "__name__").getD .none) (.ref c') ctv
    let H1 : Hp := upd (upd H0 P (.tbl (ps ++ row))) c' (CodeO c' (lamQ X))
    have stays : ∀ b o, b ≠ P → s0.heap.get? b = some o → (h'.push last).get? b = some o := fun b o nb e => Heap.get?_push_of_some _ (kp b o nb (push b o e))
    have I1 : Inv X pins σ H1 { s0 with heap := h'.push last, toks := tk } := inv_table (more := row) I0 hP stays (Heap.get?_push_of_some _ grown) (by omega) ⟨oc, vs, tx, Heap.get?_push_of_some _ atC, isF, isQ⟩
    have newC : H0 c' = none := freeAt _ (by omega)
    have cP : P ≠ c' := fun z => by
      rw [z, newC] at hP
      cases hP
    have ext : ExtP P H0 H1 := fun b o e bp => (upd_ne (ne_of_none e newC)).trans ((upd_ne bp).trans e)
    have codeP : ∀ {c0 : Addr} {q : Str}, H0 c0 = some (CodeO c0 q) → c0 ≠ P := fun {c0 q} e z => by
      rw [z, hP] at e
      exact codeO_ne ps (Option.some.inj e).symm
    have tabs : Tabs T H1 := fun p mp => by
      obtain ⟨qs, q1, q2, q3⟩ := hT p mp
      by_cases hb : p.1 = P
      · rw [only p mp hb, hb]
        refine ⟨ps ++ row, (upd_ne cP).trans upd_same, ?_, fun p' cv got => ?_⟩
        · rw [Array.toList_append]
          exact PySem.TriplesOk_snoc _ _ _ _ ok3
        · rw [Array.toList_append] at got
          rcases among_app _ ok3 got with old | new
          · obtain ⟨c0, e1, e2⟩ := among p' cv old
            exact ⟨c0, e1, ext _ _ e2 (codeP e2)⟩
          · exact ⟨c', new, upd_same⟩
      · refine ⟨qs, (upd_ne (ne_of_none q1 newC)).trans ((upd_ne hb).trans q1), q2, fun p' cv got => ?_⟩
        obtain ⟨c0, e1, e2⟩ := q3 p' cv got
        exact ⟨c0, e1, ext _ _ e2 (codeP e2)⟩
    have far : s0.heap.objs.size ≤ h'.objs.size := by omega
    have fresh1 : ∀ b, s0.heap.objs.size ≤ b → b ≠ c' → H1 b = none := fun b hb bc => (upd_ne bc).trans ((upd_ne fun z => by
      rw [z] at hb
      exact absurd (Heap.lt_size tabAt) (Nat.not_lt_of_le hb)).trans (freeAt b hb))
    exact made _ _ c' u doc _ ctv H1 _ I1 ext tabs rel (Heap.get?_push_of_some _ (kp _ _ tP tIs)) (Heap.get?_push_size _ rfl) (fresh1 _ far (by omega)) (fresh1 _ (Nat.le_refl _) (by omega)) (noFrame I0 far) (noFrame I0 (Nat.le_refl _)) upd_same
end
end DL
end
section
set_option linter.all false
set_option maxRecDepth 100000
namespace DL
open PySem PySem.Spec PyProof.Rows L2 LamX
section
variable {X : Cx} {pins : List (Addr × Obj)} {σ : L2.St} {H HZ : Hp} {s s1 : Shared}
end
end DL
end
section
set_option linter.all false
set_option maxRecDepth 100000
namespace DL
open PySem PySem.Spec PyProof.Rows L2 LamX
/-- what the maker of the lambdas and the ear are known by -/
structure HearC (P : Program) (w : World) (K : PySem.W.Frag) (mg : Str → Option Value) (base : Heap) (c tab : Addr) (q : Str) : Prop where
  ear : EarC K mg
  fn : ∃ (st : Stmt) (gd : Addr) (fd : FuncData) (p : Nat → Nat → Pos) (r : Nat → Pos), Fun K "_law_heard" "_law_heard" st gd fd ∧ defBody st = earB p r ∧ FnScope earNs ["call"] (defScope st) ∧ Vis (defScope st) "call" ∧ (defScope st).names.lookup ("found" : Str) = some NameKind.local ∧
    (defScope st).names.lookup ("error" : Str) = some NameKind.local ∧ (∀ e ∈ ears, (defScope st).names.lookup e.1 = some NameKind.globalImplicit) ∧ mg "_law_heard" = some (.ref gd) ∧ PySem.W.keepIn K (.ref gd) = true ∧ L2.Binds K fd ["call"] []
  tb : TabB base mg c tab
  mem : (tab, q) ∈ lamTabs K
  only : ∀ p ∈ lamTabs K, p.1 = tab → p.2 = q
section
variable {X : Cx} {e : Expr} {es : List Expr} {F : List Slot → Tr RetE} {r : FA} {i j k n : Nat} {ps : List Str} {fx : Str} {params : Arguments} {scope : Scope} {p fp fpos lpos pos : Pos} {c tab : Addr}
end
end DL
end
section
set_option linter.all false
set_option maxRecDepth 100000
namespace DL
open PySem PySem.Spec PyProof.Rows L2 LamX
end DL
namespace DL
open PySem PySem.Spec PyProof.Rows L2 LamX
end DL
end
section
set_option linter.all false
set_option maxRecDepth 100000
namespace DL
open PySem PySem.Spec PyProof.Rows L2 LamX
section
variable {P : Program} {w : World} {K : PySem.W.Frag} {mg mb : Str → Option Value} {k : Nat} {fa a : Addr} {tl : List (Addr × Addr)} {fd : FuncData} {x : Str} {sp : Sp} {st : Shared} {vs : List Value} {ns : List Int}
end
end DL
end
section
set_option linter.all false
set_option maxRecDepth 100000
namespace DL
open PySem PySem.Spec PyProof.Rows L2 LamX
end DL
end
section
set_option linter.all false
set_option maxRecDepth 100000
namespace DL
open PySem PySem.Spec PyProof.Rows L2 LamX
end DL
end
section
set_option linter.all false
set_option maxRecDepth 100000
namespace DL
open PySem PySem.Spec PyProof.Rows L2 LamX
def fTyN (neg : Bool) (T : String) (f : FE) : FT := fun env => (f env).bind fun d => match tyN d with
  | some n => .ret (if neg = true then !decide (n = T) else decide (n = T))
  | none => .fail
def eTyN (neg : Bool) (T : String) (f : FE) : FE := fun env => (f env).bind fun d => match tyN d with
  | some n => .ret (.bool (if neg = true then !decide (n = T) else decide (n = T)))
  | none => .fail
section
variable {X : Cx} {e : Expr}
end
mutual
def smallD : D → Bool
  | .list ds => smallAll ds
  | .tuple ds => smallAll ds
  | .dict [] => true
  | .dict _ => false
  | _ => true
def smallAll : List D → Bool
  | [] => true
  | d :: ds => smallD d && smallAll ds
end
section
variable {X : Cx} {pins : List (Addr × Obj)} {σ : L2.St} {H : Hp} {s : Shared} {N : Addr → Prop}
end
def dReprE : List D → Option D
  | [d] => if d.showable = true ∧ smallD d = true ∧ d.depth ≤ 30 ∧ d.shown.length ≤ sizeLine then some (.str d.shown) else none
  | _ => none
section
variable {X : Cx}
end
end DL
end
section
set_option linter.all false
set_option maxRecDepth 100000
namespace DL
open PySem PySem.Spec PyProof.Rows L2 LamX
end DL
end
section
set_option linter.all false
set_option maxRecDepth 100000
namespace DL
open PySem PySem.Spec PyProof.Rows L2
section
variable {X : Cx} {W : WX} {k : Kd} {e : Expr} {es : List Expr} {f : FEE} {pos : Pos} {E : L2.St → XK}
end
end DL
end
section
set_option linter.all false
set_option maxRecDepth 100000
namespace DL
open PySem PySem.Spec PyProof.Rows L2 RZ
def pairO (u v : Value) : Obj := { cls := .type "tuple", data := .seq #[u, v] }
def ItzF (K : PySem.W.Frag) (a b : Addr) : It := { Itz K a b with
  yld := fun i H v H' => ∃ T x y o, v = .ref T ∧ H T = none ∧ H' = upd H T (.frz o (.tup [x, y])) ∧ o.dict = none ∧ (∀ xs, SqL K H a xs → xs[i]? = some x) ∧ ∀ ys, SqL K H b ys → ys[i]? = some y }
def ItzTF (K : PySem.W.Frag) (a b : Addr) : It := { ItzT K a b with
  yld := fun i H v H' => ∃ T x y o, v = .ref T ∧ H T = none ∧ H' = upd H T (.frz o (.tup [x, y])) ∧ o.dict = none ∧ (∀ xs, SqT K H a xs → xs[i]? = some x) ∧ ∀ ys, SqT K H b ys → ys[i]? = some y }
section
variable {P : Program} {w : World} {K : PySem.W.Frag} {elts : List Expr} {kk : Nat} {tpos : Pos} {a b z TI TO i1 i2 : Addr}
/-- a new pair, known by its object -/
theorem pair_ok {X : Cx} {H : Hp} {hp : Heap} {T : Addr} {x y : V} {u v : Value} (e : hp.get? T = some (pairO u v)) (rx : RelV x u) (ry : RelV y v) : ObjOk X.prog X.w (upd H T (.frz (pairO u v) (.tup [x, y]))) hp T (.frz (pairO u v) (.tup [x, y])) :=
  ⟨e, by show 2 ≤ sizeLine; decide, [u, v], .cons rx (.cons ry .nil), ⟨_, e, rfl, _, rfl⟩⟩
theorem turn_zipF (D : ZipApart z TI TO i1 i2 a b) : Turn P w K (.Tuple elts kk tpos) (ItzF K a b) [z, TI, TO, i1, i2] z (fun i h => IsZip h z TI TO .none ∧ IsPair h TI (.ref i1) (.ref i2) ∧ (∃ x y, IsPair h TO x y) ∧ h.IsListIter i1 a i ∧ h.IsListIter i2 b i) where
  mem := (turn_zip (P := P) (w := w) (K := K) (elts := elts) (kk := kk) (tpos := tpos) D).mem
  obj := (turn_zip (P := P) (w := w) (K := K) (elts := elts) (kk := kk) (tpos := tpos) D).obj
  keep := (turn_zip (P := P) (w := w) (K := K) (elts := elts) (kk := kk) (tpos := tpos) D).keep
  done := (turn_zip (P := P) (w := w) (K := K) (elts := elts) (kk := kk) (tpos := tpos) D).done
  self := (turn_zip (P := P) (w := w) (K := K) (elts := elts) (kk := kk) (tpos := tpos) D).self
  item := fun X eP eW eK calm i pins s σ H E inv free now go => by
    subst eP eW eK
    obtain ⟨nz, nI, ⟨p0, q0, nO⟩, n1, n2⟩ := now
    obtain ⟨xs, ys, x, y, ax, ay, gx, gy⟩ := go
    obtain ⟨us, rus, lu, _⟩ := inv.list ax
    obtain ⟨ws, rws, lw, _⟩ := inv.list ay
    obtain ⟨u, eu, ru⟩ := rus.get gx
    obtain ⟨v, ev, rv⟩ := rws.get gy
    have zl : z < s.heap.objs.size := Heap.lt_size nz
    refine wpAny_pyNext_zip_item D nz nI nO n1 n2 lu.isList lw.isList (x := u) (y := v) (by simpa using eu) (by simpa using ev) fun hA zA OA m1 m2 tA _ kA => ⟨_, rfl, wpAny_letOwnedTupleGo_zip (s := { s with heap := hA }) zA fun hB zB kB => ?_⟩
    have tB : hB.get? s.heap.objs.size = some (pairO u v) := (kB.2 _ (Nat.ne_of_gt zl)).trans tA
    have out : ∀ {c : Addr}, c ∉ [z, TI, TO, i1, i2] → c ≠ z ∧ c ≠ TI ∧ c ≠ TO ∧ c ≠ i1 ∧ c ≠ i2 := fun {c} n => by simpa using n
    have inB : Inv X pins σ (upd H s.heap.objs.size (.frz (pairO u v) (.tup [x, y]))) { s with heap := hB } :=
      inv.turnedNew (t' := s.toks) (ch := [z, TI, TO, i1, i2]) (fun c o n q => (kB.2 c (out n).1).trans (kA c o (out n).1 (out n).2.2.1 (out n).2.2.2.1 (out n).2.2.2.2 q)) free (Nat.le_refl _) (pair_ok tB ru rv)
    refine ⟨.ref s.heap.objs.size, _, inB, rfl, ⟨_, x, y, _, rfl, inv.hok.fresh (Nat.le_refl _), rfl, rfl, fun l hl => by rw [inv.list_inj hl ax]; exact gx, fun l hl => by rw [inv.list_inj hl ay]; exact gy⟩, ⟨zB, (kB.2 _ D.TIz).trans (kA _ _ D.TIz D.TITO D.TIi1 D.TIi2 nI), ⟨u, v, (kB.2 _ D.TOz).trans OA⟩, m1.at fun o q => (kB.2 _ D.i1z).trans q, m2.at fun o q => (kB.2 _ D.i2z).trans q⟩, fun c cm => ?_⟩
    have nc := (free c cm).1
    have lt : c ≠ s.heap.objs.size := fun e => by
      obtain ⟨o, g, _⟩ := (turn_zip (P := X.prog) (w := X.w) (K := X.K) (elts := elts) (kk := kk) (tpos := tpos) D).obj i s.heap ⟨nz, nI, ⟨p0, q0, nO⟩, n1, n2⟩ c cm
      rw [e] at g
      exact Nat.lt_irrefl _ (Heap.lt_size g)
    rw [upd_ne lt]
    exact nc
theorem turn_zipTF (D : ZipApart z TI TO i1 i2 a b) : Turn P w K (.Tuple elts kk tpos) (ItzTF K a b) [z, TI, TO, i1, i2] z (fun i h => IsZip h z TI TO .none ∧ IsPair h TI (.ref i1) (.ref i2) ∧ (∃ x y, IsPair h TO x y) ∧ h.IsTupleIter i1 a i ∧ h.IsTupleIter i2 b i) where
  mem := (turn_zipT (P := P) (w := w) (K := K) (elts := elts) (kk := kk) (tpos := tpos) D).mem
  obj := (turn_zipT (P := P) (w := w) (K := K) (elts := elts) (kk := kk) (tpos := tpos) D).obj
  keep := (turn_zipT (P := P) (w := w) (K := K) (elts := elts) (kk := kk) (tpos := tpos) D).keep
  done := (turn_zipT (P := P) (w := w) (K := K) (elts := elts) (kk := kk) (tpos := tpos) D).done
  self := (turn_zipT (P := P) (w := w) (K := K) (elts := elts) (kk := kk) (tpos := tpos) D).self
  item := fun X eP eW eK calm i pins s σ H E inv free now go => by
    subst eP eW eK
    obtain ⟨nz, nI, ⟨p0, q0, nO⟩, n1, n2⟩ := now
    obtain ⟨xs, ys, x, y, ax, ay, gx, gy⟩ := go
    obtain ⟨us, rus, lu, _⟩ := inv.tuple ax
    obtain ⟨ws, rws, lw, _⟩ := inv.tuple ay
    obtain ⟨u, eu, ru⟩ := rus.get gx
    obtain ⟨v, ev, rv⟩ := rws.get gy
    have zl : z < s.heap.objs.size := Heap.lt_size nz
    refine pyNext_zipT_item D nz nI nO n1 n2 lu lw (x := u) (y := v) (by simpa using eu) (by simpa using ev) fun hA zA OA m1 m2 tA _ kA => ⟨_, rfl, wpAny_letOwnedTupleGo_zip (s := { s with heap := hA }) zA fun hB zB kB => ?_⟩
    have tB : hB.get? s.heap.objs.size = some (pairO u v) := (kB.2 _ (Nat.ne_of_gt zl)).trans tA
    have out : ∀ {c : Addr}, c ∉ [z, TI, TO, i1, i2] → c ≠ z ∧ c ≠ TI ∧ c ≠ TO ∧ c ≠ i1 ∧ c ≠ i2 := fun {c} n => by simpa using n
    have inB : Inv X pins σ (upd H s.heap.objs.size (.frz (pairO u v) (.tup [x, y]))) { s with heap := hB } :=
      inv.turnedNew (t' := s.toks) (ch := [z, TI, TO, i1, i2]) (fun c o n q => (kB.2 c (out n).1).trans (kA c o (out n).1 (out n).2.2.1 (out n).2.2.2.1 (out n).2.2.2.2 q)) free (Nat.le_refl _) (pair_ok tB ru rv)
    refine ⟨.ref s.heap.objs.size, _, inB, rfl, ⟨_, x, y, _, rfl, inv.hok.fresh (Nat.le_refl _), rfl, rfl, fun l hl => by rw [inv.tuple_inj hl ax]; exact gx, fun l hl => by rw [inv.tuple_inj hl ay]; exact gy⟩, ⟨zB, (kB.2 _ D.TIz).trans (kA _ _ D.TIz D.TITO D.TIi1 D.TIi2 nI), ⟨u, v, (kB.2 _ D.TOz).trans OA⟩, m1.at fun o q => (kB.2 _ D.i1z).trans q, m2.at fun o q => (kB.2 _ D.i2z).trans q⟩, fun c cm => ?_⟩
    have nc := (free c cm).1
    have lt : c ≠ s.heap.objs.size := fun e => by
      obtain ⟨o, g, _⟩ := (turn_zipT (P := X.prog) (w := X.w) (K := X.K) (elts := elts) (kk := kk) (tpos := tpos) D).obj i s.heap ⟨nz, nI, ⟨p0, q0, nO⟩, n1, n2⟩ c cm
      rw [e] at g
      exact Nat.lt_irrefl _ (Heap.lt_size g)
    rw [upd_ne lt]
    exact nc
end
def iZipF (K : PySem.W.Frag) (ta : TA) : TI := fun σ H R => ta σ H fun vs H1 => ∃ a b xs ys, vs = [.ref a, .ref b] ∧ ((SqL K H1 a xs ∧ SqL K H1 b ys ∧ R (ItzF K a b) H1) ∨ (SqT K H1 a xs ∧ SqT K H1 b ys ∧ R (ItzTF K a b) H1))
theorem pi_zipF {X : Cx} {e e2 : Expr} {ta : TA} {p pos tpos : Pos} {elts : List Expr} {kk : Nat} (isG : Gl X "zip") (noM : X.mg "zip" = none) (args : PA X [e, e2] ta)
    (st : starEach [e, e2] X.env = (false, eval e X.env) :: starEach [e2] X.env := by rfl) (pl : (backTo pos (starEach [e2] X.env)).any (·.1) = false := by rfl) :
    PI X (.Tuple elts kk tpos) (.Call (.Name "zip" p) [e, e2] [] pos) (iZipF X.K ta) := by
  refine ⟨fun pins s σ H R inv h => ?_⟩
  refine Call_ (ld_blt inv isG noM PyProof.Rows.boot_zip (PyProof.Rows.callWith_type1 (thn (args.run pos pins s σ H _ inv h) fun us t ⟨vs, HA, jnv, rel, q⟩ => ?_) st pl))
  obtain ⟨a, b, xs, ys, ev, q⟩ := q
  subst ev
  have new5 : ∀ c, c ∈ [t.heap.objs.size + 4, t.heap.objs.size + 2, t.heap.objs.size + 3, t.heap.objs.size, t.heap.objs.size + 1] → FpOk X pins HA c := fun c cm => by
    have le : t.heap.objs.size ≤ c := by
      simp only [List.mem_cons, List.not_mem_nil, or_false] at cm
      rcases cm with rfl | rfl | rfl | rfl | rfl
      · exact Nat.le_add_right t.heap.objs.size 4
      · exact Nat.le_add_right t.heap.objs.size 2
      · exact Nat.le_add_right t.heap.objs.size 3
      · exact Nat.le_refl t.heap.objs.size
      · exact Nat.le_add_right t.heap.objs.size 1
    exact jnv.fpOk le (jnv.hok.fresh le)
  cases rel with
  | cons r1 rr =>
  cases rr with
  | cons r2 rr =>
    cases rr
    cases r1
    cases r2
    rcases q with ⟨sx, sy, q⟩ | ⟨sx, sy, q⟩
    · obtain ⟨_, _, lx, _⟩ := jnv.list sx
      obtain ⟨_, _, ly, _⟩ := jnv.list sy
      refine call_zip_2 lx.isList ly.isList fun hB nz nI nO n1 n2 _ kB => wpAny_pyIter_zip nz ?_
      exact ⟨t.heap.objs.size + 4, [t.heap.objs.size + 4, t.heap.objs.size + 2, t.heap.objs.size + 3, t.heap.objs.size, t.heap.objs.size + 1], _, _, HA, rfl, jnv.kept (t' := t.toks) kB, turn_zipF (PySem.W.ktu_apart t.heap.objs.size a b lx.lt ly.lt), ⟨nz, nI, ⟨_, _, nO⟩, n1, n2⟩, new5, q⟩
    · obtain ⟨lx, _, tx, _⟩ := jnv.tuple sx
      obtain ⟨ly, _, ty, _⟩ := jnv.tuple sy
      obtain ⟨ox, hox, _⟩ := id tx
      obtain ⟨oy, hoy, _⟩ := id ty
      refine call_zipT (show t.heap.IsTuple a lx.toArray from tx) (show t.heap.IsTuple b ly.toArray from ty) fun hB nz nI nO n1 n2 _ kB => wpAny_pyIter_zip nz ?_
      exact ⟨t.heap.objs.size + 4, [t.heap.objs.size + 4, t.heap.objs.size + 2, t.heap.objs.size + 3, t.heap.objs.size, t.heap.objs.size + 1], _, _, HA, rfl, jnv.kept (t' := t.toks) kB, turn_zipTF (PySem.W.ktu_apart t.heap.objs.size a b (Heap.lt_size hox) (Heap.lt_size hoy)), ⟨nz, nI, ⟨_, _, nO⟩, n1, n2⟩, new5, q⟩
end DL
end
section
set_option linter.all false
set_option maxRecDepth 100000
namespace DL
open PySem PySem.Spec PyProof.Rows L2 RZ
section
variable {K : PySem.W.Frag} {N : Addr → Prop} {H : Hp} {a b : Addr} {ds es : List D}
theorem pair2_in {N' : Addr → Prop} {HB : Hp} {T : Addr} {o : Obj} {x y : V} {d e : D} (hT : HB T = none) (dom : ∀ x, N' x → HB x ≠ none) (od : o.dict = none) (hd : In K N' HB x d) (he : In K N' HB y e) : In K N' (upd HB T (.frz o (.tup [x, y]))) (.ref T) (.tuple [d, e]) :=
  In.newTup (.cons hd (.cons he .nil)) hT dom od
theorem src_zipLF (h : In K N H (.ref a) (.list ds)) (g : In K N H (.ref b) (.list es)) : Src K N H (ItzF K a b) (zipD ds es) where
  go := fun i N' HB p dom hi => by
    rw [zip_len] at hi
    obtain ⟨a', xs, ea, ha, h1⟩ := (p _ _ h).list_inv
    cases ea
    obtain ⟨b', ys, eb, hb, g1⟩ := (p _ _ g).list_inv
    cases eb
    have lx : i < xs.length := by rw [h1.length]; omega
    have ly : i < ys.length := by rw [g1.length]; omega
    refine ⟨⟨xs, ys, xs[i], ys[i], .inl (.inl ha), .inl (.inl hb), List.getElem?_eq_getElem lx, List.getElem?_eq_getElem ly⟩, fun v H' ⟨T, x, y, o, ev, hT, eH, od, hx, hy⟩ => ?_⟩
    subst ev eH
    obtain ⟨d, ed, hd⟩ := h1.get (hx _ (.inl (.inl ha)))
    obtain ⟨e, ee, he⟩ := g1.get (hy _ (.inl (.inl hb)))
    exact ⟨same_new hT, _, zip_at ds es i d e ed ee, pair2_in hT dom od hd he⟩
  stop := fun N' HB p => by
    obtain ⟨a', xs, ea, ha, h1⟩ := (p _ _ h).list_inv
    cases ea
    obtain ⟨b', ys, eb, hb, g1⟩ := (p _ _ g).list_inv
    cases eb
    refine ⟨xs, ys, .inl (.inl ha), .inl (.inl hb), ?_⟩
    rw [h1.length, g1.length, zip_len]
    omega
theorem src_zipTF (h : In K N H (.ref a) (.tuple ds)) (g : In K N H (.ref b) (.tuple es)) : Src K N H (ItzTF K a b) (zipD ds es) where
  go := fun i N' HB p dom hi => by
    rw [zip_len] at hi
    obtain ⟨a', xs, ea, ha, h1⟩ := (p _ _ h).tuple_inv
    cases ea
    obtain ⟨b', ys, eb, hb, g1⟩ := (p _ _ g).tuple_inv
    cases eb
    have lx : i < xs.length := by rw [h1.length]; omega
    have ly : i < ys.length := by rw [g1.length]; omega
    refine ⟨⟨xs, ys, xs[i], ys[i], ha, hb, List.getElem?_eq_getElem lx, List.getElem?_eq_getElem ly⟩, fun v H' ⟨T, x, y, o, ev, hT, eH, od, hx, hy⟩ => ?_⟩
    subst ev eH
    obtain ⟨d, ed, hd⟩ := h1.get (hx _ ha)
    obtain ⟨e, ee, he⟩ := g1.get (hy _ hb)
    exact ⟨same_new hT, _, zip_at ds es i d e ed ee, pair2_in hT dom od hd he⟩
  stop := fun N' HB p => by
    obtain ⟨a', xs, ea, ha, h1⟩ := (p _ _ h).tuple_inv
    cases ea
    obtain ⟨b', ys, eb, hb, g1⟩ := (p _ _ g).tuple_inv
    cases eb
    refine ⟨xs, ys, ha, hb, ?_⟩
    rw [h1.length, g1.length, zip_len]
    omega
end
def zipOfF : List D → Option (List D)
  | [.list a, .list b] => some (zipD a b)
  | [.tuple a, .tuple b] => some (zipD a b)
  | _ => none
def sForZF (r : FL) (tgt : FG) (body : FS) : FS := fun env => (r env).bind fun ds => match zipOfF ds with
  | some zs => forD tgt body zs env
  | none => .fail
def eCompZF (r : FL) (tgt : FG) (t : FT) (fe : FE) (vs : List Nat) : FE := fun env => (r env).bind fun ds => match zipOfF ds with
  | some zs => endComp tgt t fe (wipeE env vs) zs
  | none => .fail
theorem zipOfF_inv {K : PySem.W.Frag} {N : Addr → Prop} {H : Hp} {vs : List V} {ds zs : List D} (e : zipOfF ds = some zs) (h : InAll K N H vs ds) :
    ∃ a b xs ys, vs = [.ref a, .ref b] ∧ ((SqL K H a xs ∧ SqL K H b ys ∧ Src K N H (ItzF K a b) zs) ∨ (SqT K H a xs ∧ SqT K H b ys ∧ Src K N H (ItzTF K a b) zs)) := by
  unfold zipOfF at e
  split at e
  · cases e
    match vs, h with
    | [u, v], .cons h1 (.cons h2 .nil) =>
      have i1 := h1
      have i2 := h2
      obtain ⟨a, xs, rfl, ha, _⟩ := In.list_inv h1
      obtain ⟨b, ys, rfl, hb, _⟩ := In.list_inv h2
      exact ⟨a, b, xs, ys, rfl, .inl ⟨.inl (.inl ha), .inl (.inl hb), src_zipLF i1 i2⟩⟩
  · cases e
    match vs, h with
    | [u, v], .cons h1 (.cons h2 .nil) =>
      have i1 := h1
      have i2 := h2
      obtain ⟨a, xs, rfl, ha, _⟩ := In.tuple_inv h1
      obtain ⟨b, ys, rfl, hb, _⟩ := In.tuple_inv h2
      exact ⟨a, b, xs, ys, rfl, .inr ⟨ha, hb, src_zipTF i1 i2⟩⟩
  · cases e
section
variable {X : Cx} {k : Kd} {sTt : Stmt} {e : Expr}
theorem xs_forZF {r : FL} {tgt : FG} {body : FS} (h : PS X sTt (tFor (iZipF X.K (tL X.K r)) (tG X.K tgt) (tS X.K k body))) : XS X k sTt (sForZF r tgt body) :=
  weakS h fun D' σ H ⟨ω, N0, N, E, b, env, r, n0, e0, q⟩ => by
  refine ⟨ω, N, E, b, env, r, Tr.All_mono ((Tr.All_bind _ _ _ _).mp q) fun ds c qa vs HA k1 o1 i1 => ?_⟩
  have rA := r.move k1 o1
  have p1 := Pres.keep (K := X.K) r.om k1
  cases ez : zipOfF ds with
  | none => simp only [ez] at qa; exact qa.elim
  | some zs =>
    simp only [ez] at qa
    obtain ⟨x, y, xs, ys, ev, hh⟩ := zipOfF_inv ez i1
    refine ⟨x, y, xs, ys, ev, ?_⟩
    rcases hh with ⟨h1, h2, S⟩ | ⟨h1, h2, S⟩
    · exact .inl ⟨h1, h2, walk_src rA n0 e0 p1 S qa⟩
    · exact .inr ⟨h1, h2, walk_src rA n0 e0 p1 S qa⟩
theorem rd_compZF {r : FL} {fe : FE} {g : TG} {tgt : FG} {tt : TT} {ft : FT} {vs : List Nat} (hg : OwnTg X.K g tgt vs) (htt : ∀ σ H Q, tY X.K ft σ H Q → tt σ H Q) : ∀ σ H Q, tX X.K .o (eCompZF r tgt ft fe vs) σ H Q → (tLc (iZipF X.K (tL X.K r)) g tt (tX X.K .v fe) vs) σ H Q :=
  fun σ H Q ⟨ω, N, E, b, env, rr, q⟩ => by
  refine ⟨ω, N, E, b, env, rr, Tr.All_mono ((Tr.All_bind _ _ _ _).mp q) fun ds c qa us H1 k1 o1 i1 => ?_⟩
  have r1 := rr.move k1 o1
  cases ez : zipOfF ds with
  | none => simp only [ez] at qa; exact qa.elim
  | some zs =>
    simp only [ez] at qa
    obtain ⟨x, y, xs, ys, ev, hh⟩ := zipOfF_inv ez i1
    refine ⟨x, y, xs, ys, ev, ?_⟩
    rcases hh with ⟨h1, h2, S⟩ | ⟨h1, h2, S⟩
    · exact .inl ⟨h1, h2, comp_core2 (g := g) (tt := tt) (ds := zs) r1 k1 (fun i H2 N' _ p dom hi => S.go i N' H2 p dom hi) (fun H2 k2 => S.stop N H2 (Pres.keep r1.om k2)) hg htt qa⟩
    · exact .inr ⟨h1, h2, comp_core2 (g := g) (tt := tt) (ds := zs) r1 k1 (fun i H2 N' _ p dom hi => S.go i N' H2 p dom hi) (fun H2 k2 => S.stop N H2 (Pres.keep r1.om k2)) hg htt qa⟩
theorem xe_compZF {r : FL} {fe : FE} {g : TG} {tgt : FG} {tt : TT} {ft : FT} {vs : List Nat} (hg : OwnTg X.K g tgt vs) (htt : ∀ σ H Q, tY X.K ft σ H Q → tt σ H Q) (h : PE X e (tLc (iZipF X.K (tL X.K r)) g tt (tX X.K .v fe) vs)) : XE X .o e (eCompZF r tgt ft fe vs) := weak h (rd_compZF hg htt)
end
end DL
end
section
set_option linter.all false
set_option maxRecDepth 100000
namespace DL
open PySem PySem.Spec PyProof.Rows L2
def forDE (tgt : FG) (body : FSE) : List D → FSE
  | [], env => .ret (.o (.nx env))
  | d :: ds, env => match tgt d env with
    | some env1 => (body env1).bind fun o => match o with
      | .o (.nx env') => forDE tgt body ds env'
      | .o (.ct env') => forDE tgt body ds env'
      | .o (.bk env') => .ret (.o (.nx env'))
      | .o (.rv x) => .ret (.o (.rv x))
      | .ex nm x => .ret (.ex nm x)
    | none => .fail
section
variable {K : PySem.W.Frag} {mg : Str → Option Value} {k : Kd} {ω : Option Om} {N0 N N1 : Addr → Prop} {E H H1 HA : Hp} {D' : Ends} {W : WX} {tgt : FG} {body : FSE} {d : D} {ds : List D} {env : Ev} {σ : L2.St} {b : Nat} {v : V} {J : It}
end
def sForSX (f : FE) (tgt : FG) (body : FSE) : FSE := fun env => (f env).bind fun d => match itemsOf d with
  | some ds => forDE tgt body ds env
  | none => .fail
def sForEX (r : FL) (tgt : FG) (body : FSE) : FSE := fun env => (r env).bind fun ds => match ds with
  | [d] => match itemsOf d with
    | some ds => forDE tgt body (pairsFrom 0 ds) env
    | none => .fail
  | _ => .fail
section
variable {X : Cx} {W : WX} {k : Kd} {sTt : Stmt}
end
/-- a source that is walked: what its expression gives -/
def SrcOk (K : PySem.W.Frag) (wi : TI) (src : FL) : Prop := ∀ (ω : Option Om) (N : Addr → Prop) (E H : Hp) (b : Nat) (env : Ev) (σ : L2.St) (R : It → Hp → Prop), RepE K ω N E H b env σ →
  (src env).All b (fun ds c => ∀ J H1, Keep ω H H1 → OrcO ω c H1 → Src K N H1 J ds → R J H1) → wi σ H R
def srcR (r : FL) : FL := fun env => (r env).bind fun ds => match rngOf ds with
  | some (lo, n) => .ret (rngD lo n)
  | none => .fail
def srcS (f : FE) : FL := fun env => (f env).bind fun d => match itemsOf d with
  | some ds => .ret ds
  | none => .fail
theorem src_rng {K : PySem.W.Frag} {N : Addr → Prop} {H : Hp} (lo : Int) (n : Nat) : Src K N H (Itr lo n) (rngD lo n) where
  go := fun i N' HB p dom hIi => by
    rw [rngD_len] at hIi
    exact ⟨hIi, fun x H' ⟨eH, hy⟩ => by
      subst eH
      exact ⟨Same.refl _, _, rngD_at _ _ _ hIi, by rw [hy]; exact .int _⟩⟩
  stop := fun N' HB p => by
    show n ≤ (rngD lo n).length
    rw [rngD_len]
    exact Nat.le_refl _
theorem srcR1_ok {K : PySem.W.Frag} {r : FL} (h1 : ∀ env b (P : List D → Nat → Prop), (r env).All b P → (r env).All b fun ds c => ds.length = 1 ∧ P ds c) : SrcOk K (iRng1 (tLB K r)) (srcR r) := fun ω N E H b env σ R re q => by
  refine ⟨ω, N, E, b, env, re, Tr.All_mono (h1 _ _ _ ((Tr.All_bind _ _ _ _).mp q)) fun ds c ⟨hl, qa⟩ vs H1 k1 o1 i1 => ?_⟩
  match ds, hl, qa, i1 with
  | [d], _, qa, i1 =>
    obtain ⟨v, rfl, iv⟩ := InBs.one i1
    cases d with
    | int j =>
      cases iv.int
      simp only [rngOf] at qa
      by_cases hz : ok62 j = true
      · rw [if_pos hz] at qa
        have hz' := of_decide_eq_true hz
        exact ⟨j, rfl, hz'.1, hz'.2, qa _ H1 k1 o1 (src_rng 0 j.toNat)⟩
      · rw [if_neg hz] at qa
        exact qa.elim
    | _ => exact qa.elim
theorem srcS_ok {K : PySem.W.Frag} {f : FE} : SrcOk K (iSeq K (tX K .v f)) (srcS f) := fun ω N E H b env σ R re q => by
  refine ⟨ω, N, E, b, env, re, Tr.All_mono ((Tr.All_bind _ _ _ _).mp q) fun d c qa v HA k1 o1 i1 => ?_⟩
  cases d with
  | list ds =>
    have i2 := i1
    obtain ⟨a, xs, rfl, ha, h1⟩ := In.list_inv i1
    exact ⟨a, rfl, .inl ⟨xs, .inl (.inl ha), qa _ HA k1 o1 (src_list i2)⟩⟩
  | tuple ds =>
    have i2 := i1
    obtain ⟨a, xs, rfl, ha, h1⟩ := In.tuple_inv i1
    exact ⟨a, rfl, .inr ⟨xs, ha, qa _ HA k1 o1 (src_tuple i2)⟩⟩
  | dict es =>
    cases hI : itemsOf (.dict es) with
    | none => rw [hI] at qa; exact qa.elim
    | some ds =>
      rw [hI] at qa
      rw [items_dict hI] at i1
      have i2 := i1
      obtain ⟨a, xs, rfl, hs, h1⟩ := In.scr_inv i1
      exact ⟨a, rfl, .inl ⟨xs, hs.seq, qa _ HA k1 o1 (src_scr i2)⟩⟩
  | _ => exact qa.elim
end DL
end
section
set_option linter.all false
set_option maxRecDepth 100000
namespace DL
open PySem PySem.Spec PyProof.Rows L2
def compD2 (tgt : FG) (t : FT) (src1 : FL) (tgt1 : FG) (t1 : FT) (f : FE) (vs1 : List Nat) (env : Ev) : Nat → List D → Tr (List D)
  | _, [] => .ret []
  | n, d :: ds => match tgt d env with
    | some env1 => (t env1).bind fun b => if b = true then (src1 env1).bind fun ds1 => if n + ds1.length ≤ sizeLine then (compD tgt1 t1 f (wipeE env1 vs1) ds1).bind fun ys => (compD2 tgt t src1 tgt1 t1 f vs1 env (n + ds1.length) ds).bind fun zs => .ret (ys ++ zs) else .fail else compD2 tgt t src1 tgt1 t1 f vs1 env n ds
    | none => .fail
def endComp2 (tgt : FG) (t : FT) (src1 : FL) (tgt1 : FG) (t1 : FT) (f : FE) (vs1 : List Nat) (env : Ev) (ds : List D) : Tr D := (compD2 tgt t src1 tgt1 t1 f vs1 env 0 ds).bind fun ys => .ret (.list ys)
section
variable {K : PySem.W.Frag} {ω : Option Om} {N : Addr → Prop} {E H H1 : Hp} {b c : Nat} {env : Ev} {σ : L2.St}
theorem RepE.writeL {D0 : Addr} {acc : List V} {y : V} (r4 : RepE K ω N E H c env σ) (nD : N D0) (noD : ¬ OmAt ω D0) (e4 : H D0 = some (.lst acc)) (eD : E D0 = none) (nown : ∀ (j : Nat) (d : D), env[j]? = some (some (.own d)) → σ[j]? ≠ some (some (.ref D0))) : RepE K ω N E (upd H D0 (.lst (acc ++ [y]))) c env σ := by
  have pw : Pres K N N H (upd H D0 (.lst (acc ++ [y]))) := pres_write nD
  refine ⟨r4.len, fun j s e => ?_, r4.sep, fun x hx => ?_, r4.om, orc_upd r4.orc noD (fun c q => by rw [e4]; exact code_lst), fun x o e n => ?_, r4.tb⟩
  · obtain ⟨v, e1, h⟩ := r4.slot j s e
    refine ⟨v, e1, ?_⟩
    cases s with
    | val d => exact pw _ _ h
    | own d =>
      obtain ⟨a, e2, na, no, ea, h⟩ := h
      have aD : a ≠ D0 := by
        rintro rfl
        rw [e2] at e1
        exact nown j d e e1
      exact ⟨a, e2, na, no, ea, h.mono (fun _ z => .inl z) (fun x o e n => by rw [upd_ne (fun z => n (by rw [z]; exact nD))]; exact e) (upd_ne aD)⟩
    | orc => exact h
  · by_cases z : x = D0
    · rw [z, upd_same]; exact fun q => nomatch q
    · rw [upd_ne z]; exact r4.dom x hx
  · have z : x ≠ D0 := fun z => by rw [z, eD] at e; cases e
    rw [upd_ne z]
    exact r4.keep x o e n
/-- a target leaves what is own as it was -/
def TgOwn (tgt : FG) : Prop := ∀ (d : D) (env env' : Ev), tgt d env = some env' → ∀ (j : Nat) (x : D), env'[j]? = some (some (.own x)) → env[j]? = some (some (.own x))
theorem tgown_name (i : Nat) : TgOwn (gN i) := fun d env env' e j x h => by
  cases e
  by_cases z : j = i
  · subst z
    by_cases l : j < env.length
    · rw [List.getElem?_set_self l] at h; cases h
    · rw [List.getElem?_eq_none (by rw [List.length_set]; omega)] at h; cases h
  · rw [List.getElem?_set_ne (fun e => z e.symm)] at h
    exact h
theorem own2 {K : PySem.W.Frag} {g : TG} {tgt : FG} {vs ws : List Nat} (h : OwnTg K g tgt vs) (k : ∀ i ∈ vs, i ∈ ws) : OwnTg K g tgt ws := fun ω N E H b env env' σ v d Q r hi e q => h ω N E H b env env' σ v d Q r hi e fun σ' r' hl ha => q σ' r' hl fun i hi => ha i fun z => hi (k i z)
theorem comp2_core {J : It} {ds : List D} {g g1 : TG} {tgt tgt1 : FG} {tt tt1 : TT} {ft ft1 : FT} {fe : FE} {wi1 : TI} {src1 : FL} {vs vs1 : List Nat} {Q : VK}
    (r : RepE K ω N E H1 b env σ) (hk : Keep ω H H1) (S : Src K N H1 J ds) (hso : SrcOk K wi1 src1)
    (hg : OwnTg K g tgt vs) (ho : TgOwn tgt) (htt : ∀ σ H Q, tY K ft σ H Q → tt σ H Q) (hg1 : OwnTg K g1 tgt1 vs1) (htt1 : ∀ σ H Q, tY K ft1 σ H Q → tt1 σ H Q)
    (q : (endComp2 tgt ft src1 tgt1 ft1 fe vs1 (wipeE env vs) ds).All b fun d c => ∀ v H', Keep ω H H' → OrcO ω c H' → RK K ω N H H' .o v d → Q v H') :
    ∀ D, H1 D = none → ∃ W : Nat → Nat → Hp → Prop, (∃ m, W 0 m (upd H1 D (.lst []))) ∧ ∀ i m H, W i m H →
      (J.stop i H ∧ Q (.ref D) H) ∨ (J.go i H ∧ ∃ Nx : Hp → Prop, (∀ H', Nx H' → ∃ m', m' < m ∧ W (i + 1) m' H') ∧ ∀ x H', J.yld i H x H' → g x (wipe σ vs) H' fun σ2 H2 => wipe σ2 vs = wipe σ vs ∧ tt σ2 H2 fun b H3 =>
        if b = true then wi1 σ2 H3 fun J1 H4 => ∃ W1 : Nat → Nat → Hp → Prop, (∃ m, W1 0 m H4) ∧ ∀ j k H, W1 j k H →
          (J1.stop j H ∧ Nx H) ∨ (J1.go j H ∧ ∃ Nx1 : Hp → Prop, (∀ H', Nx1 H' → ∃ k', k' < k ∧ W1 (j + 1) k' H') ∧ ∀ x H', J1.yld j H x H' → g1 x (wipe σ2 vs1) H' fun σ3 H5 => wipe σ3 vs1 = wipe σ2 vs1 ∧ tt1 σ3 H5 fun b H6 =>
            if b = true then tX K .v fe σ3 H6 fun y H7 => ∃ acc, H7 D = some (.lst acc) ∧ acc.length < sizeLine ∧ Nx1 (upd H7 D (.lst (acc ++ [y]))) else Nx1 H6)
        else Nx H3) := by
  intro D0 hD
  have nD : ¬ N D0 := fun z => r.dom _ z hD
  have noD : ¬ OmAt ω D0 := fun z => nD (r.om _ z)
  have om' : ∀ x, OmAt ω x → addN N D0 x := fun x z => .inl (r.om x z)
  have eD : E D0 = none := by
    cases e : E D0 with
    | none => rfl
    | some o =>
      have h1 : H1 D0 = some o := r.keep D0 o e noD
      rw [hD] at h1
      cases h1
  have own0 : ∀ (j : Nat) (d : D), (wipeE env vs)[j]? = some (some (.own d)) → (wipe σ vs)[j]? ≠ some (some (.ref D0)) := fun j d e z => by
    obtain ⟨e1, hj⟩ := wipeE_some e
    obtain ⟨v0, e0, a0, e00, n0, no0, ea0, h0⟩ := r.slot j _ e1
    rw [wipe_at hj, e0] at z
    cases z
    cases e00
    obtain ⟨o0, z0⟩ := h0.there
    rw [hD] at z0
    cases z0
  unfold endComp2 at q
  have q := (Tr.All_bind _ _ _ _).mp q
  have s0 : Same H1 (upd H1 D0 (.lst [])) := same_new hD
  have p0 : Pres K N (addN N D0) H1 (upd H1 D0 (.lst [])) := fun v d h => h.mono (fun x z => z.elim .inl fun e => .inr (by rw [e]; exact hD)) fun x o e _ => s0 x o e
  -- what is to come of the further items
  let Fin : List D → List D → Nat → Prop := fun ys zs c2 => ∀ v H', Keep ω H H' → OrcO ω c2 H' → RK K ω N H H' .o v (.list (ys ++ zs)) → Q v H'
  let Inv2 : Nat → Hp → Prop := fun i H2 => ∃ c acc ys n, Keep ω H1 H2 ∧ Pres K N (addN N D0) H1 H2 ∧ RepE K ω (addN N D0) E H2 c (wipeE env vs) (wipe σ vs) ∧ H2 D0 = some (.lst acc) ∧ InAll K (addN N D0) H2 acc ys ∧ acc.length ≤ n ∧
      (compD2 tgt ft src1 tgt1 ft1 fe vs1 (wipeE env vs) n (ds.drop i)).All c fun zs c2 => Fin ys zs c2
  refine ⟨fun i m H2 => Inv2 i H2 ∧ i + m = ds.length, ⟨ds.length, ⟨b, [], [], 0, Keep.of s0, p0, (r.more (Keep.of s0) (r.orc.same s0) hD (by rw [upd_same]; exact fun z => nomatch z)).wipe vs, upd_same, .nil, Nat.zero_le _, q⟩, Nat.zero_add _⟩, fun i m H2 ⟨⟨c, acc, ys, n, kH, pH, r2, e2, i2, hl, q2⟩, em⟩ => ?_⟩
  by_cases hi : i < ds.length
  · obtain ⟨g1', g2'⟩ := S.go i _ H2 pH r2.dom hi
    rw [List.drop_eq_getElem_cons hi] at q2
    refine .inr ⟨g1', Inv2 (i + 1), fun H3 z => ⟨m - 1, by omega, z, by omega⟩, fun x H3 hy => ?_⟩
    obtain ⟨sm, d, ed, hd⟩ := g2' x H3 hy
    have kS : Keep ω H2 H3 := Keep.of sm
    have r2 := r2.move kS (r2.orc.same sm)
    have e2 := sm _ _ e2
    have i2 := i2.keep om' kS
    have kH := kH.trans kS
    have pH := pH.trans (Pres.keep om' kS)
    rw [List.getElem?_eq_getElem hi] at ed
    cases ed
    have q2 : (match tgt ds[i] (wipeE env vs) with
      | some env1 => (ft env1).bind fun b => if b = true then (src1 env1).bind fun ds1 => if n + ds1.length ≤ sizeLine then (compD tgt1 ft1 fe (wipeE env1 vs1) ds1).bind fun ys => (compD2 tgt ft src1 tgt1 ft1 fe vs1 (wipeE env vs) (n + ds1.length) (ds.drop (i + 1))).bind fun zs => .ret (ys ++ zs) else .fail else compD2 tgt ft src1 tgt1 ft1 fe vs1 (wipeE env vs) n (ds.drop (i + 1))
      | none => .fail : Tr (List D)).All c fun zs c2 => Fin ys zs c2 := q2
    cases et : tgt ds[i] (wipeE env vs) with
    | none => simp only [et] at q2; exact q2.elim
    | some env1 =>
      simp only [et] at q2
      refine hg ω _ E H3 c _ env1 _ x _ _ r2 hd et fun σ2 rσ hlen hag => ⟨wipe_eq (hlen.trans (wipe_length σ vs)) (fun i hi => (hag i hi).trans (wipe_at hi)), htt _ _ _ ⟨ω, addN N D0, E, c, env1, rσ, Tr.All_mono ((Tr.All_bind _ _ _ _).mp q2) fun t c3 qa H4 k4 o4 => ?_⟩⟩
      have own1 : ∀ (j : Nat) (d : D), (wipeE env1 vs1)[j]? = some (some (.own d)) → (wipe σ2 vs1)[j]? ≠ some (some (.ref D0)) := fun j d e z => by
        obtain ⟨e1, hj⟩ := wipeE_some e
        have e2 := ho _ _ _ et j d e1
        rw [wipe_at hj, hag j (wipeE_some e2).2] at z
        exact own0 j d e2 z
      cases t with
      | true =>
        refine hso ω (addN N D0) E H4 c3 env1 σ2 _ (rσ.move k4 o4) (Tr.All_mono ((Tr.All_bind _ _ _ _).mp qa) fun ds1 c4 qb J1 H5 k5 o5 S1 => ?_)
        by_cases hz : n + ds1.length ≤ sizeLine
        · rw [if_pos hz] at qb
          have qb := (Tr.All_bind _ _ _ _).mp qb
          have k35 := k4.trans k5
          let Inv1 : Nat → Hp → Prop := fun j H6 => ∃ c acc ys, Keep ω H1 H6 ∧ Pres K N (addN N D0) H1 H6 ∧ Pres K (addN N D0) (addN N D0) H5 H6 ∧ RepE K ω (addN N D0) E H6 c (wipeE env vs) (wipe σ vs) ∧ RepE K ω (addN N D0) E H6 c (wipeE env1 vs1) (wipe σ2 vs1) ∧ H6 D0 = some (.lst acc) ∧ InAll K (addN N D0) H6 acc ys ∧ acc.length ≤ n + j ∧
            (compD tgt1 ft1 fe (wipeE env1 vs1) (ds1.drop j)).All c fun zs c2 => ((compD2 tgt ft src1 tgt1 ft1 fe vs1 (wipeE env vs) (n + ds1.length) (ds.drop (i + 1))).bind fun zz => .ret (zs ++ zz)).All c2 fun zz c3 => Fin ys zz c3
          refine ⟨fun j k H6 => Inv1 j H6 ∧ j + k = ds1.length, ⟨ds1.length, ⟨c4, acc, ys, kH.trans k35, pH.trans (Pres.keep om' k35), Pres.refl, r2.move k35 o5, ((rσ.move k4 o4).move k5 o5).wipe vs1, k35 _ _ e2 noD, i2.keep om' k35, hl, qb⟩, Nat.zero_add _⟩, fun j k H6 ⟨⟨c6, acc, ys, kH, pH, pS, r2, rI, e2, i2, hl, q6⟩, ek⟩ => ?_⟩
          by_cases hj : j < ds1.length
          · obtain ⟨h1', h2'⟩ := S1.go j _ H6 pS r2.dom hj
            rw [List.drop_eq_getElem_cons hj] at q6
            refine .inr ⟨h1', Inv1 (j + 1), fun H7 z => ⟨k - 1, by omega, z, by omega⟩, fun x1 H7 hy1 => ?_⟩
            obtain ⟨sm, d1, ed1, hd1⟩ := h2' x1 H7 hy1
            have kS : Keep ω H6 H7 := Keep.of sm
            have r2 := r2.move kS (r2.orc.same sm)
            have rI := rI.move kS (rI.orc.same sm)
            have e2 := sm _ _ e2
            have i2 := i2.keep om' kS
            have kH := kH.trans kS
            have pH := pH.trans (Pres.keep om' kS)
            have pS := pS.trans (Pres.keep om' kS)
            rw [List.getElem?_eq_getElem hj] at ed1
            cases ed1
            have q6 : (match tgt1 ds1[j] (wipeE env1 vs1) with
              | some env2 => (ft1 env2).bind fun b => if b = true then (fe env2).bind fun y => (compD tgt1 ft1 fe (wipeE env1 vs1) (ds1.drop (j + 1))).bind fun ys => .ret (y :: ys) else compD tgt1 ft1 fe (wipeE env1 vs1) (ds1.drop (j + 1))
              | none => .fail : Tr (List D)).All c6 fun zs c2 => ((compD2 tgt ft src1 tgt1 ft1 fe vs1 (wipeE env vs) (n + ds1.length) (ds.drop (i + 1))).bind fun zz => .ret (zs ++ zz)).All c2 fun zz c3 => Fin ys zz c3 := q6
            cases et1 : tgt1 ds1[j] (wipeE env1 vs1) with
            | none => simp only [et1] at q6; exact q6.elim
            | some env2 =>
              simp only [et1] at q6
              refine hg1 ω _ E H7 c6 _ env2 _ x1 _ _ rI hd1 et1 fun σ3 rσ3 hlen3 hag3 => ⟨wipe_eq (hlen3.trans (wipe_length σ2 vs1)) (fun i hi => (hag3 i hi).trans (wipe_at hi)), htt1 _ _ _ ⟨ω, addN N D0, E, c6, env2, rσ3, Tr.All_mono ((Tr.All_bind _ _ _ _).mp q6) fun t1 c7 qc H8 k8 o8 => ?_⟩⟩
              cases t1 with
              | true =>
                refine ⟨ω, addN N D0, E, c7, env2, rσ3.move k8 o8, Tr.All_mono ((Tr.All_bind _ _ _ _).mp qc) fun y c8 qd v H9 k9 o9 i9 => ?_⟩
                have k89 := k8.trans k9
                have e9 := k89 _ _ e2 noD
                have pw : Pres K (addN N D0) (addN N D0) H9 (upd H9 D0 (.lst (acc ++ [v]))) := pres_write (.inr rfl)
                refine ⟨acc, e9, by omega, c8, acc ++ [v], ys ++ [y], fun x o e nn => ?_, (pH.trans (Pres.keep om' k89)).trans pw, (pS.trans (Pres.keep om' k89)).trans pw, (r2.move k89 o9).writeL (.inr rfl) noD e9 eD own0, (rI.move k89 o9).writeL (.inr rfl) noD e9 eD own1, upd_same, all_pres pw ((i2.keep om' k89).append (.cons i9 .nil)), by rw [List.length_append]; show acc.length + 1 ≤ _; omega, ?_⟩
                · rw [upd_ne (fun z => by rw [z, hD] at e; cases e)]
                  exact (kH.trans k89) x o e nn
                · refine Tr.All_mono ((Tr.All_bind _ _ _ _).mp qd) fun zs c9 hq => ?_
                  have hq := (Tr.All_bind _ _ _ _).mp hq
                  refine (Tr.All_bind _ _ _ _).mpr (Tr.All_mono hq fun zz c10 hf => ?_)
                  show Fin (ys ++ [y]) (zs ++ zz) c10
                  have hf : Fin ys ((y :: zs) ++ zz) c10 := hf
                  intro v' H' k' o' r'
                  refine hf v' H' k' o' ?_
                  rw [List.append_assoc] at r'
                  exact r'
              | false =>
                exact ⟨c7, acc, ys, kH.trans k8, pH.trans (Pres.keep om' k8), pS.trans (Pres.keep om' k8), r2.move k8 o8, rI.move k8 o8, k8 _ _ e2 noD, i2.keep om' k8, by omega, qc⟩
          · have ej : j = ds1.length := by omega
            subst ej
            rw [List.drop_length] at q6
            refine .inl ⟨S1.stop _ H6 pS, c6, acc, ys, n + ds1.length, kH, pH, r2, e2, i2, hl, ?_⟩
            have q7 := (Tr.All_bind _ _ _ _).mp q6
            exact Tr.All_mono q7 fun zz c7 hf => hf
        · rw [if_neg hz] at qb
          exact qb.elim
      | false =>
        exact ⟨c3, acc, ys, n, kH.trans k4, pH.trans (Pres.keep om' k4), r2.move k4 o4, k4 _ _ e2 noD, i2.keep om' k4, hl, qa⟩
  · have ei : i = ds.length := by omega
    subst ei
    rw [List.drop_length] at q2
    refine .inl ⟨S.stop _ H2 pH, ?_⟩
    have q3 := q2 (.ref D0) H2 (hk.trans kH) r2.orc
    rw [List.append_nil] at q3
    exact q3 ⟨D0, rfl, hk.none r.orc hD, acc, e2, i2⟩
def eComp2 (src : FL) (tgt : FG) (t : FT) (src1 : FL) (tgt1 : FG) (t1 : FT) (fe : FE) (vs vs1 : List Nat) : FE := fun env => (src env).bind fun ds => endComp2 tgt t src1 tgt1 t1 fe vs1 (wipeE env vs) ds
theorem rd_comp2 {X : Cx} {wi wi1 : TI} {src src1 : FL} {g g1 : TG} {tgt tgt1 : FG} {tt tt1 : TT} {ft ft1 : FT} {fe : FE} {vs vs1 : List Nat} (hs : SrcOk X.K wi src) (hso : SrcOk X.K wi1 src1) (hg : OwnTg X.K g tgt vs) (ho : TgOwn tgt) (htt : ∀ σ H Q, tY X.K ft σ H Q → tt σ H Q) (hg1 : OwnTg X.K g1 tgt1 vs1) (htt1 : ∀ σ H Q, tY X.K ft1 σ H Q → tt1 σ H Q) :
    ∀ σ H Q, tX X.K .o (eComp2 src tgt ft src1 tgt1 ft1 fe vs vs1) σ H Q → (tLc2 wi g tt wi1 g1 tt1 (tX X.K .v fe) vs vs1) σ H Q := fun σ H Q ⟨ω, N, E, b, env, r, q⟩ =>
  hs ω N E H b env σ _ r (Tr.All_mono ((Tr.All_bind _ _ _ _).mp q) fun ds c qa J H1 k1 o1 S => comp2_core (r.move k1 o1) k1 S hso hg ho htt hg1 htt1 qa)
theorem xe_comp2 {X : Cx} {e : Expr} {wi wi1 : TI} {src src1 : FL} {g g1 : TG} {tgt tgt1 : FG} {tt tt1 : TT} {ft ft1 : FT} {fe : FE} {vs vs1 : List Nat} (hs : SrcOk X.K wi src) (hso : SrcOk X.K wi1 src1) (hg : OwnTg X.K g tgt vs) (ho : TgOwn tgt) (htt : ∀ σ H Q, tY X.K ft σ H Q → tt σ H Q) (hg1 : OwnTg X.K g1 tgt1 vs1) (htt1 : ∀ σ H Q, tY X.K ft1 σ H Q → tt1 σ H Q)
    (h : PE X e (tLc2 wi g tt wi1 g1 tt1 (tX X.K .v fe) vs vs1)) : XE X .o e (eComp2 src tgt ft src1 tgt1 ft1 fe vs vs1) := weak h (rd_comp2 hs hso hg ho htt hg1 htt1)
end
end DL
end
section
set_option linter.all false
set_option maxRecDepth 100000
namespace DL
open PySem PySem.Spec PyProof.Rows L2
section
variable {X : Cx}
end
end DL
end
section
set_option linter.all false
set_option maxRecDepth 100000
namespace DL
open PySem PySem.Spec PyProof.Rows L2
inductive RetT where
  | t (b : Bool)
  | ex (c : Str) (d : D)
section
variable {X : Cx} {W : WX} {k kd : Kd} {e a b : Expr} {f fa fb : FEE} {pos : Pos} {E : L2.St → XK}
end
end DL
end
section
set_option linter.all false
set_option maxRecDepth 100000
namespace DL
open PySem PySem.Spec PyProof.Rows L2
def dRepT : D → D → Option D
  | .tuple xs, .int k => if 2 ≤ k ∧ k ≤ 1000 ∧ xs.length ≤ 1000 then some (.tuple (List.replicate k.toNat xs).flatten) else none
  | _, _ => none
def dMulT (x y : D) : Option D := match dMulA x y with
  | some d => some d
  | none => dRepT x y
end DL
end
section
set_option linter.all false
set_option maxRecDepth 100000
namespace DL
open PySem PySem.Spec PyProof.Rows L2
abbrev sNew (w : World) (s : Shared) : Shared :=
  { heap := s.heap.push { cls := Value.type "set", data := Data.set #[] 0 (SetTable.fresh 0 0 !w.params.followText "set-order") }, gens := s.gens, drawn := s.drawn, toks := s.toks, os := s.os }
end DL
end
section
set_option linter.all false
set_option maxRecDepth 100000
namespace DL
open PySem PySem.Spec PyProof.Rows L2
/-- a number into an ascending list that has each number once -/
def insU (k : Int) : List Int → List Int
  | [] => [k]
  | x :: xs => if k < x then k :: x :: xs else if k = x then x :: xs else x :: insU k xs
def sset : List Int → List Int
  | [] => []
  | k :: ks => insU k (sset ks)
section
variable {K : PySem.W.Frag} {ω : Option Om} {N : Addr → Prop} {E H H1 : Hp} {b c : Nat} {env : Ev} {σ : L2.St}
end
end DL
end
section
set_option linter.all false
set_option maxRecDepth 100000
namespace DL
open PySem PySem.Spec PyProof.Rows L2
section
variable {X : Cx} {k : Kd} {st : Stmt} {f : FE}
end
end DL
end
section
set_option linter.all false
set_option maxRecDepth 100000
namespace DL
open PySem PySem.Spec PyProof.Rows L2 RZ
section
variable {X : Cx} {e : Expr} {W : WX} {k : Kd}
end
end DL
end
section
set_option linter.all false
set_option maxRecDepth 100000
namespace DL
open PySem PySem.Spec PyProof.Rows L2
theorem xs_par3T {X : Cx} {k : Kd} {st : Stmt} {o1 o2 o3 : Bool} {i j l : Nat} {f1 f2 f3 : FE} (h : PS X st (tAsg (tTup (tCons (tX X.K (kdOf o1) f1) (tCons (tX X.K (kdOf o2) f2) (tCons (tX X.K (kdOf o3) f3) tNil)))) (gTup X.K 3 (gCons (gName i) (gCons (gName j) (gCons (gName l) gNil)))))) : XS X k st (sPar3 o1 o2 o3 i j l f1 f2 f3) := weakS h fun D' σ H ⟨ω, N0, N, E, b, env, r, n0, e0, q⟩ => by
  refine ⟨ω, N, E, b, env, r, Tr.All_mono ((Tr.All_bind _ _ _ _).mp q) fun x c qa v H1 k1 p1 i1 => ?_⟩
  obtain ⟨N1, a1, b1, s1, t1⟩ := r.fill (i := i) k1 p1 i1
  refine ⟨ω, N1, E, c, env, a1, Tr.All_mono ((Tr.All_bind _ _ _ _).mp qa) fun y c2 qb u H2 k2 p2 i2 => ?_⟩
  obtain ⟨N2, a2, b2, s2, t2⟩ := a1.fill2 (i := j) b1 k2 p2 i2
  refine ⟨ω, N2, E, c2, env, a2, Tr.All_mono ((Tr.All_bind _ _ _ _).mp qb) fun z c3 qc y3 H3 k3 p3 i3 => ?_⟩
  obtain ⟨N3, _, b3, s3, t3⟩ := a2.fill2 (i := l) b2 k3 p3 i3
  refine ⟨by show 3 ≤ sizeLine; decide, fun p hPp => ⟨p, [v, u, y3], rfl, .inl (.inl upd_same), rfl, v, [u, y3], rfl, u, [y3], rfl, y3, [], rfl, rfl, ?_⟩⟩
  exact qc N3 _ _ (b3.move (Keep.of (same_new hPp)) (p3.same (same_new hPp))) (fun z hz => s3 z (s2 z (s1 z (n0 z hz)))) (((t1.trans t2).trans t3).trans (Pres.keep b3.om (Keep.of (ω := ω) (same_new hPp))))
end DL
end
section
set_option linter.all false
set_option maxRecDepth 100000
namespace DL
open PySem PySem.Spec PyProof.Rows L2
theorem nodup_le {α : Type} [DecidableEq α] : ∀ {a b : List α}, a.Nodup → (∀ v, v ∈ a → v ∈ b) → a.length ≤ b.length
  | [], _, _, _ => Nat.zero_le _
  | x :: a, b, hn, h => by
    have n := List.nodup_cons.mp hn
    have m := h x (List.mem_cons_self ..)
    have q := nodup_le (a := a) (b := b.erase x) n.2 fun v hv => (List.mem_erase_of_ne (fun e => n.1 (by rw [← e]; exact hv))).mpr (h v (List.mem_cons_of_mem _ hv))
    rw [List.length_erase_of_mem m] at q
    have := List.length_pos_of_mem m
    rw [List.length_cons]
    omega
def dLenSetT : D → Option D
  | .tuple ds => (dNums ds).bind fun ns => if ns.length ≤ 4000 then some (.int ((sset ns).length : Nat)) else none
  | d => dLenSet d
def eLenSetT (f : FE) : FE := fun env => (f env).bind fun d => Tr.ofOpt (dLenSetT d)
end DL
end
section
set_option linter.all false
set_option maxRecDepth 100000
set_option maxHeartbeats 1000000
namespace ZL
open PySem PySem.Spec PyProof.Rows RZ
section
variable {prog : Program} {w : World} {A : Around} {E : Value → Shared → Prop} {s : Shared}
variable {z TI TO T i1 i2 l1 l2 : Addr} {f : Bool} {oT : Obj} {k1 k2 : Nat} {xs ys : Array Value} {x y : Value}
end
end ZL
end
section
set_option linter.all false
set_option maxRecDepth 100000
set_option maxHeartbeats 1000000
namespace ZL
open PySem PySem.Spec PyProof.Rows RZ
abbrev lstO (acc : Array Value) (c : Nat) : Obj := { cls := .type "list", dict := none, data := .seq acc c, slots := #[] }
/-- where the list stands with i pairs taken; n: the heap's size ahead of zip(..) -/
structure St (h0 h : Heap) (n l1 l2 i : Nat) (xs ys acc : Array Value) (as : List Addr) : Prop where
  ti : IsPair h (n + 2) (.ref n) (.ref (n + 1))
  p1 : h.IsTupleIter n l1 i
  p2 : h.IsTupleIter (n + 1) l2 i
  t1 : h.IsTuple l1 xs
  t2 : h.IsTuple l2 ys
  zz : (IsZip h (n + 4) (n + 2) (n + 3) .none ∧ ∃ a b, IsPair h (n + 3) a b) ∨ ∃ T f oT, IsZipHeld h (n + 4) (n + 2) (n + 3) T f ∧ h.get? T = some oT ∧ n + 6 ≤ T
  ls : ∃ c, h.get? (n + 5) = some (lstO acc c)
  ac : acc.toList = as.map Value.ref
  len : as.length = i
  pr : ∀ (j : Nat) (a : Addr), as[j]? = some a → n + 6 ≤ a ∧ ∃ x y, xs[j]? = some x ∧ ys[j]? = some y ∧ IsPair h a x y
  old : ∀ b o, b < n → h0.get? b = some o → h.get? b = some o
  rise : as.Pairwise (· < ·)
section
variable {h0 h h' : Heap} {n l1 l2 i : Nat} {xs ys acc : Array Value} {as : List Addr}
end
section
variable {prog : Program} {w : World} {A : Around} {s : Shared} {R : Result → Shared → Prop} {h0 : Heap} {n l1 l2 m : Nat} {xs ys : Array Value}
end
end ZL
end
section
set_option linter.all false
set_option maxRecDepth 100000
set_option maxHeartbeats 1000000
namespace ZL
open PySem PySem.Spec PyProof.Rows RZ
section
variable {prog : Program} {w : World} {A : Around} {E : Value → Shared → Prop} {s : Shared} {h0 : Heap} {n l1 l2 m : Nat} {xs ys : Array Value}
end
end ZL
end
section
set_option linter.all false
set_option maxRecDepth 100000
namespace DL
open PySem PySem.Spec PyProof.Rows L2
def dz : List (List Int) → List (List Int)
  | [] => []
  | x :: l => if x ∈ dz l then dz l else x :: dz l
def zipI (ns ms : List Int) : List (List Int) := List.zipWith (fun n m => [n, m]) ns ms
def dLenZipT : D → D → Option D
  | .tuple ds, .tuple es => (dNums ds).bind fun ns => (dNums es).bind fun ms => if ns.length = ms.length ∧ ns.length < 64 then some (.int ((dz (zipI ns ms)).length : Nat)) else none
  | _, _ => none
def dLenZip : D → D → Option D
  | .tuple ds, .tuple es => dLenZipT (.tuple ds) (.tuple es)
  | .tuple ds, .list es => (dNums ds).bind fun ns => (dNums es).bind fun ms => if ns.length = ms.length ∧ ns.length < 64 ∧ 0 < ns.length then some (.int ((dz (zipI ns ms)).length : Nat)) else none
  | _, _ => none
section
variable {X : Cx} {a b : Expr} {fa fb : FE} {p1 p2 p3 p4 q1 q2 q3 pos : Pos}
end
end DL
end
section
set_option linter.all false
set_option maxRecDepth 100000
namespace DL
open PySem PySem.Spec PyProof.Rows L2
/-- what a frame knows while it fills the set at slot j -/
structure SetS (K : PySem.W.Frag) (w : World) (ω : Option Om) (N : Addr → Prop) (E H : Hp) (b : Nat) (env : Ev) (σ : L2.St) (j : Nat) (a : Addr) (ks : List Int) : Prop where
  rep : RepE K ω N E H b env σ
  at_ : σ[j]? = some (some (.ref a))
  na : N a
  no : ¬ OmAt ω a
  ea : E a = none
  set : ∃ S, H a = some (SetO w a S ks.length) ∧ ∀ k, S k = true ↔ k ∈ ks
  own : ∀ (i : Nat) (d : D), env[i]? ≠ some (some (.own d))
section
variable {K : PySem.W.Frag} {w : World} {ω : Option Om} {N : Addr → Prop} {E H H' : Hp} {b c : Nat} {env : Ev} {σ : L2.St} {j : Nat} {a : Addr} {ks : List Int}
end
end DL
end
section
set_option linter.all false
set_option maxRecDepth 100000
namespace DL
open PySem PySem.Spec PyProof.Rows L2
section
variable {K : PySem.W.Frag} {w : World} {ω : Option Om} {N : Addr → Prop} {E H H' : Hp} {b c : Nat} {env : Ev} {σ : L2.St} {a : Addr} {ks : List Int} {n : Int} {J : It} {ds : List D} {D' : Ends}
def InR (n : Int) (ks : List Int) : Prop := ks.Nodup ∧ ∀ k ∈ ks, 0 ≤ k ∧ k ≤ 2 * n - 1
/-- what stays through the loops -/
structure Are (K : PySem.W.Frag) (w : World) (ω : Option Om) (N : Addr → Prop) (E H : Hp) (b : Nat) (env : Ev) (σ : L2.St) (a : Addr) (ks : List Int) (n : Int) (d : D) : Prop where
  st : SetS K w ω N E H b env σ 2 a ks
  len : env.length = 5
  e0 : env[0]? = some (some (.val (.int n)))
  e1 : env[1]? = some (some (.val d))
  r : InR n ks
  n5 : n ≤ 5
end
end DL
end
section
set_option linter.all false
set_option maxRecDepth 100000
namespace DL
open PySem PySem.Spec PyProof.Rows L2
end DL
end
section
set_option linter.all false
set_option maxRecDepth 100000
namespace DL
open PySem PySem.Spec PyProof.Rows L2 LamX
structure CalEK (P : Program) (w : World) (K : PySem.W.Frag) (mg : Str → Option Value) (base : Heap) (x : Str) (j : Nat) (ps : List Str) (n : Nat) (idx : List Nat) (sp : Sp) (ks : List Str) : Prop where
  ex : ∃ f fd, FnGE P w K mg base j f fd ps sp ∧ (∀ (s : Shared) (ws : List Value), K.In s.heap → (reo n idx .none ws).length = ps.length → BindsTo s fd ⟨[], ks.zip ws⟩ (ps.zip (reo n idx .none ws))) ∧ mg x = some (.ref f) ∧ PySem.W.keepIn K (.ref f) = true
section
variable {X : Cx} {F : List Slot → Tr RetE} {r : FA} {i j k n : Nat} {idx : List Nat} {ps ks : List Str} {fx : Str} {params : Arguments} {scope : Scope} {p fp fpos lpos pos : Pos} {c tab : Addr} {kws : List Keyword}
end
end DL
end
section
set_option linter.all false
set_option maxRecDepth 100000
namespace DL
open PySem PySem.Spec PyProof.Rows L2
section
variable {X : Cx} {a b : Expr} {t : TA} {p3 p4 q1 pos : Pos}
end
end DL
end
section
set_option linter.all false
set_option maxRecDepth 100000
namespace DL
open PySem PySem.Spec PyProof.Rows L2
def renS (seen : List (Int × Int)) : List (Int × Int) → List Int
  | [] => []
  | q :: r => if q ∈ seen then ((seen.idxOf q : Nat) : Int) :: renS seen r else ((seen.length : Nat) : Int) :: renS (seen ++ [q]) r
end DL
end
section
set_option linter.all false
set_option maxRecDepth 100000
namespace DL
open PySem PySem.Spec PyProof.Rows L2
def dRenZip : D → D → Option D
  | .tuple ds, .tuple es => (dNums ds).bind fun ns => (dNums es).bind fun ms => if ns.length = ms.length ∧ ns.length ≤ 1000 then some (.tuple ((renS [] (ns.zip ms)).map .int)) else none
  | _, _ => none
section
variable {X : Cx} {a b : Expr} {fa fb : FE} {j : Nat} {p0 p3 p4 q1 q2 pos : Pos}
end
end DL
end
section
set_option linter.all false
set_option maxRecDepth 100000
namespace DL
open PySem PySem.Spec PyProof.Rows L2
section
variable {X : Cx} {k : Kd} {st : Stmt}
end
end DL
end
section
set_option linter.all false
set_option maxRecDepth 100000
namespace DL
open PySem PySem.Spec PyProof.Rows L2
section
variable {X : Cx} {pins : List (Addr × Obj)} {σ : L2.St} {H : Hp} {s : Shared} {d q : Addr} {xs : TEnt} {k : List Int} {ys : List (List Int × Addr × Value)} {v : V}
end
end DL
end
section
set_option linter.all false
set_option maxRecDepth 100000
namespace DL
open PySem PySem.Spec PyProof.Rows L2
section
variable {X : Cx} {pins : List (Addr × Obj)} {σ : L2.St} {H : Hp} {s : Shared} {d q : Addr} {xs : TEnt} {k : List Int} {v : V} {A : Around} {E : Value → Shared → Prop}
end
section
variable {X : Cx} {o i e value : Expr} {pos pos' : Pos} {td ty tv : TE}
end
end DL
end
section
set_option linter.all false
set_option maxRecDepth 100000
namespace DL
open PySem PySem.Spec PyProof.Rows L2
section
variable {K : PySem.W.Frag} {N : Addr → Prop} {H : Hp} {k : List Int}
end
section
variable {X : Cx} {k : Kd} {st : Stmt} {e : Expr} {pos : Pos}
end
end DL
end
section
set_option linter.all false
set_option maxRecDepth 100000
namespace DL
open PySem PySem.Spec PyProof.Rows L2
section
variable {prog : Program} {w : World} {A : Around} {E : Value → Shared → Prop} {s : Shared} {d : Addr} {es : Array DictEntry} {ep : Nat}
end
end DL
end
section
set_option linter.all false
set_option maxRecDepth 100000
namespace DL
open PySem PySem.Spec PyProof.Rows L2
section
variable {prog : Program} {w : World} {A : Around} {E : Value → Shared → Prop} {s : Shared} {d : Addr} {es : Array DictEntry} {ep : Nat}
end
section
variable {X : Cx} {pins : List (Addr × Obj)} {σ : L2.St} {H : Hp} {s : Shared} {d : Addr} {xs : TEnt} {A : Around} {E : Value → Shared → Prop}
end
section
variable {X : Cx}
end
end DL
end
section
set_option linter.all false
set_option maxRecDepth 100000
namespace DL
open PySem PySem.Spec PyProof.Rows L2
section
variable {X : Cx} {pins : List (Addr × Obj)} {σ : L2.St} {H : Hp} {s : Shared} {d : Addr} {o : Obj} {u : HO} {xs : TEnt}
end
section
variable {X : Cx} {e : Expr} {td : TE} {apos cpos : Pos}
end
end DL
end
section
set_option linter.all false
set_option maxRecDepth 100000
namespace DL
open PySem PySem.Spec PyProof.Rows L2
section
variable {X : Cx} {k : Kd} {st : Stmt}
end
end DL
end
section
set_option linter.all false
set_option maxRecDepth 100000
namespace DL
open PySem PySem.Spec PyProof.Rows L2
end DL
end
section
set_option linter.all false
set_option maxRecDepth 100000
namespace DL
open PySem PySem.Spec PyProof.Rows L2
structure CalD (P : Program) (w : World) (K : PySem.W.Frag) (mg : Str → Option Value) (base : Heap) (x : Str) (j : Nat) (ps : List Str) (sp : Sp) : Prop where
  ex : ∃ f fd ds, FnG P w K mg base j f fd ps sp ∧ (L2.Binds K fd ps ds ∧ Vals [V.non] ds) ∧ mg x = some (.ref f) ∧ PySem.W.keepIn K (.ref f) = true
end DL
end
section
set_option linter.all false
set_option maxRecDepth 100000
namespace DL
open PySem PySem.Spec PyProof.Rows L2
section
variable {X : Cx} {pins : List (Addr × Obj)} {σ : L2.St} {H : Hp} {s : Shared} {d q : Addr} {xs : TEnt} {k : List Int} {v : V} {A : Around} {E : Value → Shared → Prop}
end
section
variable {X : Cx} {o e f : Expr} {td ty tx : TE} {apos cpos : Pos}
end
end DL
end
section
set_option linter.all false
set_option maxRecDepth 100000
namespace DL
open PySem PySem.Spec PyProof.Rows L2
abbrev Fru := List (List Int × List D)
/-- one entry: the key's tuple, and the list, which is the frame's own -/
def FEn (K : PySem.W.Frag) (ω : Option Om) (N : Addr → Prop) (E H : Hp) (a : Addr) (x : List Int × Addr × V) (e : List Int × List D) : Prop :=
  x.1 = e.1 ∧ In K N H (.ref x.2.1) (.tuple (x.1.map .int)) ∧ ∃ l vs, x.2.2 = .ref l ∧ N l ∧ ¬ OmAt ω l ∧ E l = none ∧ l ≠ a ∧ H l = some (.lst vs) ∧ InAll K N H vs e.2
def TNe (H : Hp) (a : Addr) (xs : TEnt) : Prop := (xs ≠ [] ∧ H a = some (DTo a xs)) ∨ (xs = [] ∧ H a = some (.dK []))
def Minus (N : Addr → Prop) (a : Addr) : Addr → Prop := fun x => N x ∧ x ≠ a
structure NxS (K : PySem.W.Frag) (ω : Option Om) (N : Addr → Prop) (E H : Hp) (b : Nat) (env : Ev) (σ : L2.St) (a a0 : Addr) (es : List (D × D)) (c : D) (ss gs : List D) (fr : Fru) (xs : TEnt) : Prop where
  rep : RepE K ω N E H b env σ
  at_ : σ[4]? = some (some (.ref a))
  na : N a
  no : ¬ OmAt ω a
  ea : E a = none
  ent : TNe H a xs ∧ Paired (FEn K ω N E H a) xs fr ∧ ∀ x ∈ xs, ∀ y ∈ xs, (x.1 = y.1 ∨ x.2.2 = y.2.2) → x = y
  own : ∀ (i : Nat) (d : D), env[i]? ≠ some (some (.own d))
  at0 : σ[3]? = some (some (.ref a0))
  no0 : ¬ OmAt ω a0
  e0 : E a0 ≠ none
  bef : In K (Minus N a0) H (.ref a0) (.dict es)
  len : env.length = 9
  v0 : env[0]? = some (some (.val c))
  v1 : env[1]? = some (some (.val (.list ss)))
  v2 : env[2]? = some (some (.val (.list gs)))
section
variable {K : PySem.W.Frag} {ω : Option Om} {N N' : Addr → Prop} {E H H' : Hp} {b c2 : Nat} {env : Ev} {σ : L2.St} {a a0 : Addr} {es : List (D × D)} {c : D} {ss gs : List D} {fr : Fru} {xs : TEnt}
end
end DL
end
section
set_option linter.all false
set_option maxRecDepth 100000
namespace DL
open PySem PySem.Spec PyProof.Rows L2
section
variable {K : PySem.W.Frag} {ω : Option Om} {N N' : Addr → Prop} {E H H' : Hp} {b c2 : Nat} {env : Ev} {σ : L2.St} {a a0 : Addr} {es : List (D × D)} {c : D} {ss gs : List D} {fr : Fru} {xs : TEnt} {D' : Ends}
end
end DL
end
section
set_option linter.all false
set_option maxRecDepth 100000
namespace DL
open PySem PySem.Spec PyProof.Rows L2
section
variable {K : PySem.W.Frag} {ω : Option Om} {N : Addr → Prop} {E H : Hp} {b : Nat} {env : Ev} {σ : L2.St} {a a0 : Addr} {es : List (D × D)} {c fig : D} {ss gs : List D} {fr : Fru} {xs : TEnt} {D' : Ends} {J : It} {f : List Slot → Tr D}
end
end DL
end
section
set_option linter.all false
set_option maxRecDepth 100000
namespace DL
open PySem PySem.Spec PyProof.Rows L2
section
variable {K : PySem.W.Frag} {ω : Option Om} {N N0 : Addr → Prop} {E H H' : Hp} {a : Addr}
end
section
variable {X : Cx} {e0 e1 e2 e3 : Expr} {f0 f1 f2 f3 : FE} {j : Nat} {p pos : Pos} {x : Str} {f : List Slot → Tr D}
end
end DL
end
section
set_option linter.all false
set_option maxRecDepth 100000
namespace DL
open PySem PySem.Spec PyProof.Rows L2
end DL
end
section
set_option linter.all false
set_option maxRecDepth 100000
namespace DL
open PySem PySem.Spec PyProof.Rows L2
section
variable {X : Cx} {n y x : Str} {i j : Nat} {body rest : List Stmt} {pos np ps q1 q2 q3 : Pos} {tb : WX → TS} {W0 : WX} {c : Value} {u : TS} {uk : Addr → Value → Option Addr → TS}
end
end DL
end
section
set_option linter.all false
set_option maxRecDepth 100000
namespace DL
open PySem PySem.Spec PyProof.Rows L2
section
variable {Z : Cx} {e C dd : Addr} {o : Obj}
def rIsK (K : PySem.W.Frag) (C e dd : Addr) : List V → Hp → VK → Prop := fun xs H Q => ∃ (C' : Addr) (b : Bool) (fs : List (Str × V)), xs = [.ref e, .ref C'] ∧ PySem.W.kitOne K (.ref C) (.ref C') = some b ∧ H dd = some (.xd fs) ∧ Q (.bl b) H
def tGetK (K : PySem.W.Frag) (C e dd : Addr) (f : Str) (te : TE) : TE := fun σ H Q => te σ H fun x H1 => x = .ref e ∧ PySem.W.findIn K (.ref C) f = some none ∧ ∃ (fs : List (Str × V)) (v : V), H1 dd = some (.xd fs) ∧ fs.lookup f = some v ∧ Q v H1
end
def tolds : List (Str × Str × Str) := [("BadColours", "number", "colours"), ("BadSum", "number", "sum"), ("BadNumber", "value", "number"), ("BadRow", "number", "row"), ("BadFigure", "place", "figure"), ("BadFamily", "number", "family"), ("TooGreat", "most", "great")]
def toldL : Str × Str × Str := ("BadCords", "value", "cords")
def toldsAll : List (Str × Str × Str) := tolds ++ [toldL]
structure ToldC (K : PySem.W.Frag) (mg : Str → Option Value) : Prop where
  at_ : ∀ e ∈ toldsAll, ∃ C, mg e.1 = some (.ref C) ∧ XfC K C ∧ ExcC K C ∧ PySem.W.findIn K (.ref C) e.2.1 = some none
  up : ∃ B, mg "HookError" = some (.ref B) ∧ ∀ e ∈ toldsAll, ∀ C, mg e.1 = some (.ref C) → PySem.W.exmOne K (.ref C) (.ref B) = some true
  is : ∀ e ∈ toldsAll, ∀ e' ∈ toldsAll, ∀ C C', mg e.1 = some (.ref C) → mg e'.1 = some (.ref C') → PySem.W.kitOne K (.ref C) (.ref C') = some (decide (e.1 = e'.1))
def wishTold (mg : Str → Option Value) (Q : VK) : XK := fun cls dd H' => ∃ (e : Str × Str × Str) (C a : Addr) (v : V), e ∈ toldsAll ∧ mg e.1 = some (.ref C) ∧ cls = .ref C ∧ dd = some a ∧ H' a = some (.xd [(e.2.1, v)]) ∧ QT Q H' [.str e.2.2, v]
def toldNs : List Str := ["call", "found", "caught", "error"]
def tIsE (K : PySem.W.Frag) (mg : Str → Option Value) (e C dd : Addr) (c : Str) : TT := L2.tB (tCB (rIsK K C e dd) (tCons (tVar 2) (tCons (tC (.ref (clsAt mg c))) tNil)))
def tToldT (K : PySem.W.Frag) (C e dd : Addr) (f w : Str) : TE := tTupF (tCons (tC (.str w)) (tCons (tGetK K C e dd f (tVar 2)) tNil))
def tToldElse : TE := tTupF (tCons (tC (.str "else")) (tCons (tC .non) tNil))
def tChain (K : PySem.W.Frag) (mg : Str → Option Value) (e C dd : Addr) : List (Str × Str × Str) → TS
  | [] => tRet (tIf (tIsE K mg e C dd "BadCords") (tToldT K C e dd "value" "cords") tToldElse)
  | x :: l => tSeq (tIfS (tIsE K mg e C dd x.1) (tRet (tToldT K C e dd x.2.1 x.2.2)) tNext) (tChain K mg e C dd l)
def tToldRest (chain : TS) : TS := tSeq (tIfS (L2.tB (tIsN (tVar 2))) (tRet (tLst (tCons (tVar 1) tNil))) tNext) chain
end DL
end
section
set_option linter.all false
set_option maxRecDepth 100000
namespace DL
open PySem PySem.Spec PyProof.Rows L2 LamX
def tNever : TS := fun _ _ _ => False
def toldPost (Q : VK) (f : Addr) : VK := fun v H' => tToldRest tNever { nx := fun _ H'' => Q .non H'', rt := Q } [some (.ref f), some v, some .non, none] H'
def TTtold (mg : Str → Option Value) : (XK → Hp → VK → Prop) → Hp → VK → Prop := fun tl H Q => QT (fun _ H1 => tl (wishTold mg Q) H1 (toldPost Q 0)) H [.non, .non]
/-- what the maker of the lambdas and the other ear are known by -/
structure HearT (P : Program) (w : World) (K : PySem.W.Frag) (mg : Str → Option Value) (base : Heap) (c tab : Addr) (q : Str) : Prop where
  ear : ToldC K mg
  fn : ∃ (st : Stmt) (gd : Addr) (fd : FuncData), Fun K "_law_told" "_law_told" st gd fd ∧ FnScope toldNs ["call"] (defScope st) ∧ Vis (defScope st) "call" ∧ mg "_law_told" = some (.ref gd) ∧ PySem.W.keepIn K (.ref gd) = true ∧ L2.Binds K fd ["call"] [] ∧
    ∀ (X : Cx) (x : Str) (g : Addr) (cdg : Value) (q : Str), X.K = K → X.mg = mg → LamX.GivesTo X toldNs x (defScope st) g cdg (defBody st) "call" q (TTtold mg)
  tb : TabB base mg c tab
  mem : (tab, q) ∈ lamTabs K
  only : ∀ p ∈ lamTabs K, p.1 = tab → p.2 = q
end DL
end
section
set_option linter.all false
set_option maxRecDepth 100000
namespace DL
open PySem PySem.Spec PyProof.Rows L2 LamX
section
variable {X : Cx} {e : Expr} {es : List Expr} {F : List Slot → Tr RetE} {r : FA} {i j k n : Nat} {ps : List Str} {fx : Str} {params : Arguments} {scope : Scope} {p fp fpos lpos pos : Pos} {c tab : Addr}
end
end DL
end
section
set_option linter.all false
set_option maxRecDepth 100000
namespace DL
open PySem PySem.Spec PyProof.Rows L2 LamX
end DL
end
section
set_option linter.all false
set_option maxRecDepth 100000
namespace DL
open PySem PySem.Spec PyProof.Rows L2
section
variable {X : Cx} {k : Kd} {st : Stmt}
end
end DL
end
section
set_option linter.all false
set_option maxRecDepth 100000
namespace ZL
open PySem PySem.Spec PyProof.Rows RZ
section
variable {prog : Program} {w : World}
end
end ZL
end
section
set_option linter.all false
set_option maxRecDepth 100000
namespace DL
open PySem PySem.Spec PyProof.Rows L2
section
variable {X : Cx} {a b : Expr} {t : TA} {p3 p4 q1 pos : Pos}
end
end DL
end
section
set_option linter.all false
set_option maxRecDepth 100000
namespace DL
open PySem PySem.Spec PyProof.Rows L2
section
variable {K : PySem.W.Frag}
end
end DL
end
section
set_option linter.all false
set_option maxRecDepth 100000
namespace DL
open PySem PySem.Spec PyProof.Rows L2
section
variable {K : PySem.W.Frag}
end
end DL
end
section
set_option linter.all false
set_option maxRecDepth 100000
namespace DL
open PySem PySem.Spec PyProof.Rows L2
section
variable {X : Cx} {k : Kd} {st : Stmt}
end
end DL
end
section
set_option linter.all false
set_option maxRecDepth 100000
namespace DL
open PySem PySem.Spec PyProof.Rows L2
def inS (x y : Str) : Bool := !(Builtin.Str.occurrences y x 0 y.length 1).isEmpty
section
variable {X : Cx}
end
end DL
end
section
set_option linter.all false
set_option maxRecDepth 100000
namespace DL
open PySem PySem.Spec PyProof.Rows L2
section
variable {X : Cx}
end
end DL
end
section
set_option linter.all false
set_option maxRecDepth 100000
set_option maxHeartbeats 1000000
namespace ZM
open PySem PySem.Spec PyProof.Rows RZ
/-- an iterator over a tuple, over a list -/
def SIt (b : Bool) (h : Heap) (it l : Addr) (k : Nat) : Prop := if b = true then h.IsListIter it l k else h.IsTupleIter it l k
def SSq (b : Bool) (h : Heap) (l : Addr) (xs : Array Value) : Prop := if b = true then h.IsList l xs else h.IsTuple l xs
section
variable {b : Bool} {h h' : Heap} {it l c : Addr} {k : Nat} {xs : Array Value}
theorem SIt.but (x : SIt b h it l k) (hs : Heap.ExtBut c h h') (n : it ≠ c) : SIt b h' it l k := by
  cases b
  · exact Heap.IsTupleIter.extBut (show h.IsTupleIter it l k from x) hs n
  · exact Heap.IsListIter.extBut (show h.IsListIter it l k from x) hs n
theorem SSq.but (x : SSq b h l xs) (hs : Heap.ExtBut c h h') (n : l ≠ c) : SSq b h' l xs := by
  cases b
  · exact Heap.IsTuple.extBut (show h.IsTuple l xs from x) hs n
  · exact Heap.IsList.extBut (show h.IsList l xs from x) hs n
theorem SIt.to (x : SIt b h it l k) (e : ∀ o, h.get? it = some o → h'.get? it = some o) : SIt b h' it l k := by
  cases b
  · exact Heap.IsTupleIter.at (show h.IsTupleIter it l k from x) e
  · exact Heap.IsListIter.at (show h.IsListIter it l k from x) e
end
section
variable {prog : Program} {w : World} {A : Around} {E : Value → Shared → Prop} {s : Shared}
variable {bb f : Bool} {z TI TO T i1 i2 l1 l2 : Addr} {oT : Obj} {k1 k2 : Nat} {xs ys : Array Value} {x y a b : Value}
theorem one_item {it l : Addr} {i : Nat} {items : Array Value} {Q : Value → Shared → Prop} (hit : SIt bb s.heap it l i) (hl : SSq bb s.heap l items) (hx : items[i]? = some x) (hQ : ∀ h', SIt bb h' it l (i + 1) → Heap.SameBut it s.heap h' → Q x { s with heap := h' }) : wpAny (model prog w) A (Builtin.SmallTypes.nextOf (.ref it)) Q E s := by
  cases bb
  · exact nextOf_tuple_item (show s.heap.IsTupleIter it l i from hit) (show s.heap.IsTuple l items from hl) hx hQ
  · exact wpAny_nextOf_list_item (show s.heap.IsListIter it l i from hit) (show s.heap.IsList l items from hl) hx hQ
end
end ZM
end
section
set_option linter.all false
set_option maxRecDepth 100000
set_option maxHeartbeats 1000000
namespace ZM
open PySem PySem.Spec PyProof.Rows RZ
/-- where the list stands with i pairs taken; n: the heap's size ahead of zip(..) -/
structure St (bb : Bool) (h0 h : Heap) (n l1 l2 i : Nat) (xs ys acc : Array Value) (as : List Addr) : Prop where
  ti : IsPair h (n + 2) (.ref n) (.ref (n + 1))
  p1 : h.IsTupleIter n l1 i
  p2 : SIt bb h (n + 1) l2 i
  t1 : h.IsTuple l1 xs
  t2 : SSq bb h l2 ys
  zz : (i = 0 ∧ IsZip h (n + 4) (n + 2) (n + 3) .none ∧ ∃ a b, IsPair h (n + 3) a b) ∨ ∃ T f oT, IsZipHeld h (n + 4) (n + 2) (n + 3) T f ∧ h.get? T = some oT ∧ n + 6 ≤ T
  ls : ∃ c, h.get? (n + 5) = some (ZL.lstO acc c)
  ac : acc.toList = as.map Value.ref
  len : as.length = i
  pr : ∀ (j : Nat) (a : Addr), as[j]? = some a → n + 6 ≤ a ∧ ∃ x y, xs[j]? = some x ∧ ys[j]? = some y ∧ IsPair h a x y
  old : ∀ b o, b < n → h0.get? b = some o → h.get? b = some o
  rise : as.Pairwise (· < ·)
section
variable {bb : Bool} {h0 h h' : Heap} {n l1 l2 i : Nat} {xs ys acc : Array Value} {as : List Addr}
end
section
variable {bb : Bool} {prog : Program} {w : World} {A : Around} {s : Shared} {R : Result → Shared → Prop} {h0 : Heap} {n l1 l2 m : Nat} {xs ys : Array Value}
end
end ZM
end
section
set_option linter.all false
set_option maxRecDepth 100000
set_option maxHeartbeats 1000000
namespace ZM
open PySem PySem.Spec PyProof.Rows RZ
section
variable {bb : Bool} {prog : Program} {w : World} {A : Around} {E : Value → Shared → Prop} {s : Shared} {h0 : Heap} {n l1 l2 m : Nat} {xs ys : Array Value}
end
end ZM
end
section
set_option linter.all false
set_option maxRecDepth 100000
set_option maxHeartbeats 1000000
namespace ZM
open PySem PySem.Spec PyProof.Rows RZ
abbrev mH1 (h : Heap) (l1 : Addr) : Heap := h.push { cls := .type "tuple_iterator", data := .fields #[.ref l1, .int 0 0] }
abbrev mH2 (h : Heap) (l1 l2 : Addr) : Heap := (mH1 h l1).push { cls := .type "list_iterator", data := .fields #[.ref l2, .int 0 0] }
abbrev mH3 (h : Heap) (l1 l2 : Addr) : Heap := (mH2 h l1 l2).push { cls := .type "tuple", data := .seq #[.ref h.objs.size, .ref (mH1 h l1).objs.size] }
abbrev mH4 (h : Heap) (l1 l2 : Addr) : Heap := (mH3 h l1 l2).push { cls := .type "tuple", data := .seq #[.none, .none] }
abbrev mH5 (h : Heap) (l1 l2 : Addr) : Heap := (mH4 h l1 l2).push { cls := .type "zip", data := .fields #[.none, .bool false, .bool false, .ref (mH2 h l1 l2).objs.size, .ref (mH3 h l1 l2).objs.size] }
theorem meets_mixed (l1 l2 : Addr) (xs ys : Array Value) : Meets (Builtin.«zip.__new__» ⟨[.type "zip", .ref l1, .ref l2], []⟩) (fun _ R s => s.heap.IsTuple l1 xs ∧ s.heap.IsList l2 ys ∧ R (.ok (.ret (.ref (mH4 s.heap l1 l2).objs.size))) { s with heap := mH5 s.heap l1 l2 }) :=
  .of_wp fun prog w A R s h => by
    obtain ⟨hp, gs, dr, tk, os⟩ := s; obtain ⟨q1, q2, q⟩ := h
    have sub := sub_zip
    have L1 : Heap.IsTuple (Shared.heap ⟨hp, gs, dr, tk, os⟩) l1 xs := q1
    have L2 : Heap.IsList (Shared.heap ⟨mH1 hp l1, gs, dr, tk, os⟩) l2 ys := Heap.IsList.push q2 _
    wp_walk using wpAny_pyIter_tuple L1, wpAny_pyIter_list L2
    exact ⟨_, rfl, q⟩
section
variable {prog : Program} {w : World} {A : Around} {E : Value → Shared → Prop} {s : Shared}
theorem call_zipM {bb : Bool} {l1 l2 : Addr} {xs ys : Array Value} {Q : Value → Shared → Prop} (t1 : s.heap.IsTuple l1 xs) (t2 : SSq bb s.heap l2 ys)
    (h : ∀ h', IsZip h' (s.heap.objs.size + 4) (s.heap.objs.size + 2) (s.heap.objs.size + 3) .none → IsPair h' (s.heap.objs.size + 2) (.ref s.heap.objs.size) (.ref (s.heap.objs.size + 1)) → IsPair h' (s.heap.objs.size + 3) .none .none → h'.IsTupleIter s.heap.objs.size l1 0 → SIt bb h' (s.heap.objs.size + 1) l2 0 → h'.objs.size = s.heap.objs.size + 5 → (∀ c o, s.heap.get? c = some o → h'.get? c = some o) → Q (.ref (s.heap.objs.size + 4)) { s with heap := h' }) :
    wpAny (model prog w) A (call (.type "zip") [.ref l1, .ref l2]) Q E s := by
  cases bb with
  | false => exact call_zipT t1 (show s.heap.IsTuple l2 ys from t2) fun h' a b c d e f g => h h' a b c d e f g
  | true =>
    refine callType_new F.called_zip (by decide) (F.typeCall_zip_2 _ _) (F.newCall_zip_2 _ _) (fun obj => F.args_object_init_3 obj _ _) F.entry_zip_new (meets_mixed l1 l2 xs ys) ⟨t1, (show s.heap.IsList l2 ys from t2), ?_⟩
    have z1 : (mH1 s.heap l1).objs.size = s.heap.objs.size + 1 := Heap.size_push ..
    have z2 : (mH2 s.heap l1 l2).objs.size = s.heap.objs.size + 2 := by rw [Heap.size_push, z1]
    have z3 : (mH3 s.heap l1 l2).objs.size = s.heap.objs.size + 3 := by rw [Heap.size_push, z2]
    have z4 : (mH4 s.heap l1 l2).objs.size = s.heap.objs.size + 4 := by rw [Heap.size_push, z3]
    have z5 : (mH5 s.heap l1 l2).objs.size = s.heap.objs.size + 5 := by rw [Heap.size_push, z4]
    have g5 : (mH5 s.heap l1 l2).get? (mH4 s.heap l1 l2).objs.size = some _ := Heap.get?_push_size _ rfl
    have g4 : (mH5 s.heap l1 l2).get? (mH3 s.heap l1 l2).objs.size = some _ := Heap.get?_push_of_some _ (Heap.get?_push_size _ rfl)
    have g3 : (mH5 s.heap l1 l2).get? (mH2 s.heap l1 l2).objs.size = some _ := Heap.get?_push_of_some _ (Heap.get?_push_of_some _ (Heap.get?_push_size _ rfl))
    have g2 : (mH5 s.heap l1 l2).get? (mH1 s.heap l1).objs.size = some _ := Heap.get?_push_of_some _ (Heap.get?_push_of_some _ (Heap.get?_push_of_some _ (Heap.get?_push_size _ rfl)))
    have g1 : (mH5 s.heap l1 l2).get? s.heap.objs.size = some _ := Heap.get?_push_of_some _ (Heap.get?_push_of_some _ (Heap.get?_push_of_some _ (Heap.get?_push_of_some _ (Heap.get?_push_size _ rfl))))
    (show _ ∧ _); rw [z2, z3, z4] at g5; rw [z1, z2] at g3; rw [z3] at g4; rw [z1] at g2; rw [z4]
    have it2 : Heap.IsListIter (mH5 s.heap l1 l2) (s.heap.objs.size + 1) l2 0 := ⟨_, g2, rfl, rfl⟩
    exact ⟨⟨_, g5, rfl⟩, h _ g5 g3 g4 ⟨_, g1, rfl, rfl⟩ it2 z5 fun c o x => Heap.get?_push_of_some _ (Heap.get?_push_of_some _ (Heap.get?_push_of_some _ (Heap.get?_push_of_some _ (Heap.get?_push_of_some _ x))))⟩
end
end ZM
end
section
set_option linter.all false
set_option maxRecDepth 100000
namespace DL
open PySem PySem.Spec PyProof.Rows L2
section
variable {X : Cx} {a b : Expr} {fa fb : FE} {p1 p2 p3 p4 q1 q2 q3 pos : Pos}
end
end DL
end
section
set_option linter.all false
set_option maxRecDepth 100000
namespace ZM
open PySem PySem.Spec PyProof.Rows RZ
section
variable {prog : Program} {w : World} {bb : Bool}
end
end ZM
end
section
set_option linter.all false
set_option maxRecDepth 100000
namespace DL
open PySem PySem.Spec PyProof.Rows L2
section
variable {X : Cx} {a b : Expr} {t : TA} {p3 p4 q1 pos : Pos}
end
end DL
end
section
set_option linter.all false
set_option maxRecDepth 100000
namespace DL
open PySem PySem.Spec PyProof.Rows L2
end DL
end
section
set_option linter.all false
set_option maxRecDepth 100000
namespace DL
open PySem PySem.Spec PyProof.Rows L2
section
variable {X : Cx} {pins : List (Addr × Obj)} {σ : L2.St} {H : Hp} {s : Shared} {d q : Addr} {xs : NEnt} {k : NestedKey} {ys : List (NestedKey × Addr × Value)} {v : V}
end
end DL
end
section
set_option linter.all false
set_option maxRecDepth 100000
namespace DL
open PySem PySem.Spec PyProof.Rows L2
section
variable {X : Cx} {pins : List (Addr × Obj)} {σ : L2.St} {H : Hp} {s : Shared} {d q : Addr} {xs : NEnt} {k : NestedKey} {ys : List (NestedKey × Addr × Value)} {v : V}
end
section
variable {X : Cx} {pins : List (Addr × Obj)} {σ : L2.St} {H : Hp} {s : Shared} {d q : Addr} {xs : NEnt} {k : NestedKey} {v : V} {A : Around} {E : Value → Shared → Prop}
end
section
variable {X : Cx} {o i e value : Expr} {pos pos' : Pos} {td ty tv : TE}
end
end DL
end
section
set_option linter.all false
set_option maxRecDepth 100000
namespace ZS
open PySem PySem.Spec PyProof.Rows L2
def Deed (h : Heap) (k : Str × Int) (b : Addr) : Prop := ∃ (o : Obj) (u v : Tok) (n : Nat), h.get? b = some o ∧ o.cls = .type "tuple" ∧ o.data = .seq #[.str k.1 u, .int k.2 v] n
abbrev nk (k : Str × Int) : NestedKey := .tup [.text k.1, .num k.2]
abbrev hs (w : World) (k : Str × Int) : Int := (nk k).hash w
theorem nk_eq {k k' : Str × Int} : (decide (nk k = nk k')) = decide (k = k') := by
  refine decide_eq_decide.mpr ⟨fun e => ?_, fun e => by rw [e]⟩
  obtain ⟨a, i⟩ := k
  obtain ⟨a', i'⟩ := k'
  simp only [NestedKey.tup.injEq, List.cons.injEq, NestedKey.text.injEq, NestedKey.num.injEq, and_true] at e
  exact Prod.ext e.1 e.2
section
variable {P : Program} {w : World} {A : Around} {E : Value → Shared → Prop} {s : Shared} {k k' : Str × Int} {b c : Addr}
theorem Deed.nested {h : Heap} (D : Deed h k b) : (nestedKind P w).is h (nk k) b := by
  obtain ⟨o, u, v, n, ho, hc, hd⟩ := D
  exact ⟨.tup ho hc hd (.cons (.text _ _) (.cons (.int _ _) .nil)), by simp [NestedKey.depth, NestedKey.depthAll]⟩
theorem Deed.kind (D : Deed s.heap k b) : s.TypeIs (.ref b) "tuple" := let ⟨o, _, _, _, ho, hc, _⟩ := D; ⟨o, ho, hc⟩
theorem Deed.keep {h h' : Heap} (D : Deed h k b) (q : ∀ c o, h.get? c = some o → h'.get? c = some o) : Deed h' k b := let ⟨o, u, v, n, ho, r⟩ := D; ⟨o, u, v, n, q b o ho, r⟩
theorem noClass (D : Deed s.heap k b) {Q : Bool → Shared → Prop} (q : Q false s) : wpAny (model P w) A (ofAClassStatement 8 (.ref b)) Q E s := by
  obtain ⟨o, u, v, n, ho, hc, hd⟩ := id D
  unfold ofAClassStatement
  refine wpAny_bind (wpAny_typeOf D.kind ?_)
  dsimp only
  rw [if_pos (by decide)]
  refine wpAny_bind (wpAny_pure ?_)
  simp only [Bool.not_true, Bool.false_eq_true, if_false]
  try refine wpAny_bind (wpAny_pure ?_)
  refine wpAny_bind (wpAny_seqItems ho hd ?_)
  dsimp only
  refine wpAny_bind ?_
  show wpAny _ _ (forIn #[Value.str k.1 u, Value.int k.2 v] _ _) _ _ s
  rw [← Array.forIn_toList]
  refine wpAny_forIn_list _ (fun rest r s' => r.1 = none ∧ s' = s ∧ ∀ y ∈ rest, ofAClassStatement 7 y = pure false) _ ?_ ?_ _ _ ⟨rfl, rfl, fun y hy => ?_⟩
  · rintro y rest r s' ⟨hr, rfl, all⟩
    rw [all y List.mem_cons_self]
    refine wpAny_bind (wpAny_pure ?_)
    simp only [Bool.false_eq_true, if_false]
    exact wpAny_pure ⟨rfl, rfl, fun z hz => all z (List.mem_cons_of_mem _ hz)⟩
  · rintro ⟨r1, r2⟩ s' ⟨hr, rfl, _⟩
    simp only at hr
    subst hr
    exact wpAny_pure q
  · have hy : y ∈ [Value.str k.1 u, Value.int k.2 v] := hy
    rcases List.mem_cons.mp hy with e | hy
    · rw [e]; rfl
    · rw [List.mem_singleton.mp hy]; rfl
theorem hashVal (D : Deed s.heap k b) {Q : Bool → Shared → Prop} (q : ∀ r, Q r s) : wpAny (model P w) A (hashByValue 8 (.ref b)) Q E s := by
  obtain ⟨o, u, v, n, ho, hc, hd⟩ := id D
  unfold hashByValue
  refine wpAny_bind (wpAny_specialOf D.kind F.slot_tuple_hash.lookup ?_)
  show wpAny _ _ (seqItems? (.ref b) >>= _) _ _ s
  refine wpAny_bind (wpAny_seqItems ho hd ?_)
  refine wpAny_bind ?_
  show wpAny _ _ (forIn #[Value.str k.1 u, Value.int k.2 v] _ _) _ _ s
  rw [← Array.forIn_toList]
  have one : hashByValue 7 (.str k.1 u) = pure false := rfl
  show wpAny _ _ (forIn [Value.str k.1 u, Value.int k.2 v] _ _) _ _ s
  rw [List.forIn_cons, one]
  refine wpAny_bind (wpAny_bind (wpAny_pure ?_))
  simp only [Bool.not_false, if_true]
  exact wpAny_pure (wpAny_pure (wpAny_pure (q false)))
theorem notSeen (D : Deed s.heap k b) {ys : List Value} (hy : ∀ y ∈ ys, ∃ k' c, y = Value.ref c ∧ Deed s.heap k' c) {Q : Bool → Shared → Prop} (q : Q false s) : wpAny (model P w) A (searchCouldBeSeen (.ref b) ys) Q E s := by
  unfold searchCouldBeSeen
  refine wpAny_bind ?_
  refine wpAny_forIn_list _ (fun rest r s' => r.1 = none ∧ s' = s ∧ ∀ y ∈ rest, ∃ k' c, y = Value.ref c ∧ Deed s.heap k' c) _ ?_ ?_ _ _ ⟨rfl, rfl, hy⟩
  · rintro y rest r s' ⟨hr, rfl, all⟩
    obtain ⟨k', c, rfl, D'⟩ := all y List.mem_cons_self
    have more := fun z (hz : z ∈ rest) => all z (List.mem_cons_of_mem _ hz)
    dsimp only
    by_cases same : (b == c || (carriedByValue (.ref b) && carriedByValue (.ref c))) = true
    · exact wp_if_pos same (wpAny_pure ⟨rfl, rfl, more⟩)
    · refine wp_if_neg same (wpAny_bind ((nestedKind P w).quiet (k := nk k) D.nested ?_))
      simp only [Bool.not_true, Bool.false_eq_true, if_false]
      refine wpAny_bind ((nestedKind P w).quiet (k := nk k') D'.nested ?_)
      simp only [Bool.not_true, Bool.false_eq_true, if_false]
      refine wpAny_bind (noClass D ?_)
      simp only [Bool.false_eq_true, if_false]
      refine wpAny_bind (noClass D' ?_)
      simp only [Bool.false_eq_true, if_false]
      exact wpAny_pure ⟨rfl, rfl, more⟩
  · rintro ⟨r1, r2⟩ s' ⟨hr, rfl, _⟩
    simp only at hr
    subst hr
    exact wpAny_pure q
end
end ZS
end
section
set_option linter.all false
set_option maxRecDepth 100000
namespace ZS
open PySem PySem.Spec PyProof.Rows L2
abbrev Ent := Addr × (Str × Int)
structure Few (w : World) (hf : Str × Int → Int) (h : Heap) (a : Addr) (L : List Ent) (es : Array (Int × Value)) (ep : Nat) (t : SetTable) : Prop where
  ob : ∃ o, h.get? a = some o ∧ o.ExactSet ∧ o.data = .set es ep t
  rows : es.toList = L.map fun p => (hf p.2, Value.ref p.1)
  tab : TabOk t (L.map fun p => hf p.2)
  mask : t.mask = 7
  few : L.length ≤ 2
  nd : (L.map (·.2)).Nodup
  mem : ∀ p ∈ L, Deed h p.2 p.1
  led : w.params.followText "set-order" = true ∨ t.led = true
abbrev beg (t : SetTable) (h : Int) : SetTable.Probe := runAt t.mask (SetTable.bits h % (t.mask + 1)) (SetTable.bits h)
theorem noDummy (m : Nat) : ∀ (n : Nat) (p : SetTable.Probe), p.dummy = none → (nth m p n).dummy = none
  | 0, _, e => e
  | n + 1, p, e => noDummy m n (adv m p) (by unfold adv; split <;> exact e)
section
variable {P : Program} {w : World} {hf : Str × Int → Int} {A : Around} {E : Value → Shared → Prop} {s : Shared} {k : Str × Int} {a x : Addr} {L : List Ent} {es : Array (Int × Value)} {ep : Nat} {t : SetTable}
theorem Few.size {h : Heap} (R : Few w hf h a L es ep t) : es.size = L.length := by
  rw [← Array.length_toList, R.rows, List.length_map]
theorem Few.fits {h : Heap} (R : Few w hf h a L es ep t) : t.fits es.size = true := by
  have e1 := R.tab.sz
  rw [List.length_map] at e1
  have e2 := R.size
  have e3 := R.mask
  have e4 := R.few
  unfold SetTable.fits SetTable.fill
  rw [R.tab.dm, Bool.and_eq_true, beq_iff_eq, decide_eq_true_eq]
  show t.place.size = es.size ∧ t.place.size + 0 ≤ t.mask
  omega
theorem Few.at_ {h : Heap} (R : Few w hf h a L es ep t) {i : Nat} {p : Ent} (e : L[i]? = some p) : es[i]? = some (hf p.2, Value.ref p.1) := by
  rw [← Array.getElem?_toList, R.rows, List.getElem?_map, e]
  rfl
theorem Few.odd {h : Heap} (R : Few w hf h a L es ep t) : ¬ t.gaveWay = true := by
  unfold SetTable.gaveWay
  rw [R.mask]
  decide
theorem eq2 {b c : Addr} {k' : Str × Int} (D : Deed s.heap k b) (D' : Deed s.heap k' c) (room : A.units + 8 < cLine) {Q : Bool → Shared → Prop} (q : Q (decide (k = k')) s) : wpAny (model P w) A (eqBool (.ref b) (.ref c)) Q E s := by
  have r : (nestedKind P w).room A := room
  refine (nestedKind P w).eqBool (x := nk k) (y := nk k') r D.nested D'.nested ?_
  rw [nk_eq]
  exact q
theorem look (R : Few w hf s.heap a L es ep t) (D : Deed s.heap k x) (room : A.units + 8 < cLine) {K : Nat} (far : K < 10 * SetTable.turns t.mask) (hK : way t.mask (hf k) K ∉ t.place.toList) (hB : ∀ c, c < K → way t.mask (hf k) c ∈ t.place.toList)
    {Q : SetFound → Shared → Prop} (qin : k ∈ L.map (·.2) → Q (.there none) s) (qout : k ∉ L.map (·.2) → Q (.free (way t.mask (hf k) K) false) s) :
    ∀ (f c : Nat) (st : Option SetTable.Probe), st.getD (t.probeStart (hf k)) = nth t.mask (beg t (hf k)) c → c ≤ K → K - c < f →
      (∀ (i : Nat) (p : Ent), L[i]? = some p → p.2 = k → ∃ c', c ≤ c' ∧ c' < K ∧ t.place.toList[i]? = some (way t.mask (hf k) c')) →
      wpAny (model P w) A (setSearchFrom a (.ref x) (hf k) true f st) Q E s := by
  obtain ⟨o, ho, hex, hd⟩ := R.ob
  intro f
  induction f with
  | zero => intro c st _ _ no; exact absurd no (Nat.not_lt_zero _)
  | succ f ih =>
    intro c st est cK lf re
    rw [setSearchFrom_succ]
    refine wpAny_bind (wpAny_setState_of ho hd R.fits ?_)
    dsimp only
    refine wp_if_neg R.odd ?_
    try refine wpAny_bind (wpAny_pure ?_)
    have mv : ∀ q, nth t.mask (nth t.mask (beg t (hf k)) c) q = nth t.mask (beg t (hf k)) (c + q) := fun q => by rw [nth_add]
    have wy : ∀ q, (nth t.mask (nth t.mask (beg t (hf k)) c) q).j = way t.mask (hf k) (c + q) := fun q => by rw [mv]
    have hz : ∀ (i : Nat) (p : Ent), L[i]? = some p → (fun i => (es[i]?.map (·.1)).getD 0) i = hf p.2 := fun i p e => by
      show (es[i]?.map (·.1)).getD 0 = _
      rw [R.at_ e]
      rfl
    have ec : c + (K - c) = K := by omega
    rcases go_spec t R.tab.ris R.tab.dm (fun i => (es[i]?.map (·.1)).getD 0) (hf k) (10 * SetTable.turns t.mask) (K - c) (nth t.mask (beg t (hf k)) c) (noDummy _ _ _ rfl) (by omega)
      (fun q l => (wy q).symm ▸ hB _ (by omega)) (by rw [wy, ec]; exact hK) with ⟨q, i, lq, hi, eh, bef, pr⟩ | ⟨bef, pr⟩
    · have pr2 : t.probe (fun i => (es[i]?.map (·.1)).getD 0) (hf k) (st.getD (t.probeStart (hf k))) = some (.candidate (way t.mask (hf k) (c + q)) i (nth t.mask (beg t (hf k)) (c + (q + 1)))) := by
        rw [est, ← wy, ← mv]
        exact pr
      rw [pr2]
      dsimp only
      rw [wy] at hi
      have li : i < L.length := by
        have e1 := (List.getElem?_eq_some_iff.mp hi).1
        have e2 := R.tab.sz
        rw [List.length_map] at e2
        rw [Array.length_toList] at e1
        omega
      obtain ⟨p, hp⟩ : ∃ p, L[i]? = some p := ⟨_, List.getElem?_eq_getElem li⟩
      have mp := List.mem_of_getElem? hp
      have live := slot_live R.tab.ris hi
      have tail : wpAny (model P w) A (searchRest a (.ref x) (hf k) true f es t (way t.mask (hf k) (c + q)) i (nth t.mask (beg t (hf k)) (c + (q + 1)))) Q E s := by
        unfold searchRest
        rw [R.at_ hp]
        dsimp only
        refine wpAny_bind (wpAny_holding (eq2 (R.mem p mp) D room ?_))
        refine wpAny_bind (wpAny_setState_of ho hd R.fits ?_)
        dsimp only
        by_cases same : p.2 = k
        · refine wp_if_pos (by rw [decide_eq_true same]; rfl) ?_
          exact wpAny_pure (qin (List.mem_map.mpr ⟨p, mp, same⟩))
        · refine wp_if_neg (by rw [decide_eq_false same]; decide) ?_
          try refine wpAny_bind (wpAny_pure ?_)
          rw [sameMem]
          dsimp only
          simp only [if_true, live, R.at_ hp]
          refine wpAny_bind (wpAny_isSame_ref_self (wpAny_bind (wpAny_pure ?_)))
          simp only [if_true]
          refine wp_if_neg (by rw [decide_eq_false same]; decide) ?_
          refine ih (c + (q + 1)) _ rfl (by omega) (by omega) fun i0 p0 h0 e0 => ?_
          obtain ⟨c', l1, l2, l3⟩ := re i0 p0 h0 e0
          refine ⟨c', ?_, l2, l3⟩
          rcases Nat.lt_trichotomy c' (c + q) with z | z | z
          · refine absurd ((hz i0 p0 h0).trans (by rw [e0])) (bef (c' - c) i0 (by omega) ?_)
            rw [wy, show c + (c' - c) = c' by omega]
            exact l3
          · rw [z] at l3
            have l4 := slot_live R.tab.ris l3
            rw [live] at l4
            injection l4 with l4
            rw [← l4, hp] at h0
            cases h0
            exact absurd e0 same
          · omega
      by_cases hl : t.led = true
      · refine wp_if_neg (by rw [hl]; decide) ?_
        try refine wpAny_bind (wpAny_pure ?_)
        exact tail
      · refine wp_if_pos (by rw [Bool.eq_false_iff.mpr hl]; rfl) ?_
        refine wpAny_bind (notSeen D (fun y hy => ?_) ?_)
        · obtain ⟨e, he, rfl⟩ := List.mem_map.mp hy
          have he1 : e ∈ es ∧ e.1 = hf k := by simpa using he
          have he2 : e ∈ es.toList := by simpa using he1.1
          rw [R.rows] at he2
          obtain ⟨p2, m2, rfl⟩ := List.mem_map.mp he2
          exact ⟨p2.2, p2.1, rfl, R.mem p2 m2⟩
        · refine wp_if_neg (by decide) ?_
          try refine wpAny_bind (wpAny_pure ?_)
          exact tail
    · have pr2 : t.probe (fun i => (es[i]?.map (·.1)).getD 0) (hf k) (st.getD (t.probeStart (hf k))) = some (.empty (way t.mask (hf k) K) none) := by
        have e2 : (nth t.mask (nth t.mask (beg t (hf k)) c) (K - c)).j = way t.mask (hf k) K := by rw [wy, ec]
        rw [est, ← e2]
        exact pr
      rw [pr2]
      dsimp only
      refine wpAny_pure (qout fun hm => ?_)
      obtain ⟨p0, m0, e0⟩ := List.mem_map.mp hm
      obtain ⟨i0, l0, g0⟩ := List.getElem_of_mem m0
      have h0 : L[i0]? = some p0 := by rw [List.getElem?_eq_getElem l0, g0]
      obtain ⟨c', l1, l2, l3⟩ := re i0 p0 h0 e0
      refine absurd ((hz i0 p0 h0).trans (by rw [e0])) (bef (c' - c) i0 (by omega) ?_)
      rw [wy, show c + (c' - c) = c' by omega]
      exact l3
/-- what adding asks of the table -/
theorem search2 (R : Few w hf s.heap a L es ep t) (D : Deed s.heap k x) (room : A.units + 8 < cLine) {Q : SetFound → Shared → Prop} (qin : k ∈ L.map (·.2) → Q (.there none) s)
    (qout : ∀ K, k ∉ L.map (·.2) → way t.mask (hf k) K ∉ t.place.toList → (∀ c, c < K → way t.mask (hf k) c ∈ t.place.toList) → Q (.free (way t.mask (hf k) K) false) s) :
    wpAny (model P w) A (setSearch a (.ref x) (hf k) true) Q E s := by
  have e3 := R.mask
  have e4 := R.few
  obtain ⟨K, hF, hK, hB⟩ := R.tab.first (by rw [List.length_map]; omega) (hf k)
  have small : 10 * SetTable.turns t.mask ≤ 1420 := by
    unfold SetTable.turns
    omega
  unfold setSearch
  refine look R D room hF hK hB qin (fun n => qout K n hK hB) 100000 0 none rfl (Nat.zero_le _) (by omega) fun i p hp e => ?_
  have li : i < t.place.toList.length := by
    have e1 := (List.getElem?_eq_some_iff.mp hp).1
    have e2 := R.tab.sz
    rw [List.length_map] at e2
    rw [Array.length_toList]
    omega
  obtain ⟨c, lc, ew⟩ := R.tab.before (h := hf k) hK (by rw [List.getElem?_map, hp, ← e]; rfl) (List.getElem?_eq_getElem li)
  exact ⟨c, Nat.zero_le _, lc, by rw [List.getElem?_eq_getElem li, ew]⟩
end
end ZS
end
section
set_option linter.all false
set_option maxRecDepth 100000
namespace ZS
open PySem PySem.Spec PyProof.Rows L2
section
variable {P : Program} {w : World} {hf : Str × Int → Int} {A : Around} {E : Value → Shared → Prop} {s : Shared} {k : Str × Int} {a x : Addr} {L : List Ent} {es : Array (Int × Value)} {ep : Nat} {t : SetTable}
theorem Deed.but {h h' : Heap} {b : Addr} {o : Obj} (D : Deed h k b) (ho : h.get? a = some o) (hd : o.data = .set es ep t) (sb : Heap.SameBut a h h') : Deed h' k b := by
  obtain ⟨o', u, v, n, ho', hc, hd'⟩ := D
  have ne : b ≠ a := by
    rintro rfl
    rw [ho] at ho'
    cases ho'
    rw [hd] at hd'
    cases hd'
  exact ⟨o', u, v, n, (sb.2 b ne).trans ho', hc, hd'⟩
theorem put_in {α : Type} (L : List α) (p : Nat) (x : α) : (L.take p ++ x :: L.drop p).Perm (x :: L) :=
  List.perm_middle.trans (by rw [List.take_append_drop])
theorem tab_plain {t : SetTable} {l : List Int} (T : TabOk t l) (b : Bool) : TabOk { t with plain := b } l := ⟨T.ris, T.dm, T.sz, T.mok, T.bd, T.reach⟩
/-- one more into a set of at most one -/
theorem add2 (R : Few w hf s.heap a L es ep t) (few : L.length ≤ 1) (D : Deed s.heap k x) (room : A.units + 8 < cLine) {Q : Bool → Shared → Prop}
    (q : ∀ b h' L' es' ep' t', Heap.SameBut a s.heap h' → Few w hf h' a L' es' ep' t' → (k ∈ L.map (·.2) → L' = L) → (k ∉ L.map (·.2) → L'.Perm ((x, k) :: L)) → Q b { s with heap := h' }) :
    wpAny (model P w) A (setAddHashed a (.ref x) (hf k)) Q E s := by
  obtain ⟨o, ho, hex, hd⟩ := R.ob
  unfold setAddHashed
  refine wpAny_holding ?_
  rw [show (100000 : Nat) = 99999 + 1 from rfl, setAddHashedIn_succ]
  refine wpAny_bind (wpAny_setState_of ho hd R.fits ?_)
  dsimp only
  refine wp_if_neg (by simp [byScan, Value.scannable]) ?_
  try refine wpAny_bind (wpAny_pure ?_)
  refine wpAny_bind (search2 R D room (fun hm => ?_) fun K hm hK hB => ?_)
  · dsimp only
    exact wpAny_pure (q false s.heap L es ep t (Heap.SameBut.refl a s.heap) R (fun _ => rfl) fun z => absurd hm z)
  · dsimp only
    refine wpAny_bind (wpAny_setState_of ho hd R.fits ?_)
    dsimp only
    obtain ⟨q1, q2, q3, q4, q5, q6, q7, q8, q9⟩ := R.tab.put hK hB
    generalize t.put (way t.mask (hf k) K) = pt at q1 q3 q4 q5 q6 q7 q8 q9 ⊢
    obtain ⟨t1, i⟩ := pt
    dsimp only at q1 q3 q4 q5 q6 q7 q8 q9 ⊢
    subst q1
    generalize hi : SetTable.below t.place (way t.mask (hf k) K) = i at q2 q3 ⊢
    have full : ∀ b : Bool, ({ t1 with plain := b } : SetTable).tooFull = false := fun b => by
      unfold SetTable.tooFull
      show decide (t1.fill * 5 ≥ t1.mask * 3) = false
      rw [q9, q4, R.mask, List.length_map]
      exact decide_eq_false (by omega)
    have rows1 : (SetTable.insertAt es i (hf k, Value.ref x)).toList = (L.take i ++ (x, k) :: L.drop i).map fun p => (hf p.2, Value.ref p.1) := by
      rw [SetTable.toList_insertAt, R.rows, List.map_append, List.map_cons, List.map_take, List.map_drop]
    have pm := put_in L i (x, k)
    have len1 : (L.take i ++ (x, k) :: L.drop i).length = L.length + 1 := pm.length_eq
    have hh : (L.take i ++ (x, k) :: L.drop i).map (fun p => hf p.2) = (L.map fun p => hf p.2).take i ++ hf k :: (L.map fun p => hf p.2).drop i := by
      rw [List.map_append, List.map_cons, List.map_take, List.map_drop]
    rw [← hh] at q3
    have nd1 : ((L.take i ++ (x, k) :: L.drop i).map (·.2)).Nodup := by
      refine (pm.map (·.2)).nodup_iff.mpr ?_
      rw [List.map_cons]
      exact List.nodup_cons.mpr ⟨hm, R.nd⟩
    have sz1 : (SetTable.insertAt es i (hf k, Value.ref x)).size = L.length + 1 := by
      rw [← Array.length_toList, rows1, List.length_map, len1]
    generalize SetTable.insertAt es i (hf k, Value.ref x) = es1 at rows1 sz1 ⊢
    generalize L.take i ++ (x, k) :: L.drop i = L1 at pm len1 q3 nd1 rows1
    have fin : ∀ b : Bool, wpAny (model P w) A (do
        storeSet a es1 { t1 with plain := b }
        if (!false && ({ t1 with plain := b } : SetTable).tooFull) = true then setRelay a (SetTable.grown (es.size + 1))
        pure true) Q E s := fun b => by
      refine wpAny_bind (wpAny_storeSet_of ho hd ?_ (by rw [sz1, sizeLine_eq]; omega))
      have sb : Heap.SameBut a s.heap (s.heap.update a (Obj.putSet es1 { t1 with plain := b })) := Heap.SameBut.update ..
      have done : Q true { s with heap := s.heap.update a (Obj.putSet es1 { t1 with plain := b }) } := by
        refine q true _ L1 es1 (ep + 1) { t1 with plain := b } sb ⟨⟨_, store_at ho hd, ⟨hex.1, hex.2.1, hex.2.2⟩, rfl⟩, rows1, tab_plain q3 b, q4.trans R.mask, by rw [len1]; omega, nd1, fun p hp => ?_, ?_⟩ (fun z => absurd z hm) fun _ => pm
        · rcases List.mem_cons.mp (pm.mem_iff.mp hp) with e | m
          · rw [e]; exact D.but ho hd sb
          · exact (R.mem p m).but ho hd sb
        · show _ ∨ t1.led = true
          rw [q5]
          exact R.led
      rw [full b]
      first
        | (refine wpAny_bind ?_; refine wp_if_neg (by decide) ?_; refine wpAny_pure ?_; exact wpAny_pure done)
        | (refine wp_if_neg (by decide) ?_; exact wpAny_pure done)
        | (refine wp_if_neg (by decide) ?_; refine wpAny_bind (wpAny_pure ?_); exact wpAny_pure done)
    cases hp : t1.plain with
    | true =>
      have e1 : { t1 with plain := true } = t1 := by rw [← hp]
      first
        | (refine wpAny_bind ?_; refine wp_if_pos rfl ?_; refine hashVal D fun r => ?_)
        | refine wp_if_pos rfl (wpAny_bind (hashVal D fun r => ?_))
      cases r with
      | true => have z := fin true; rw [e1] at z; exact z
      | false => exact fin false
    | false =>
      have e1 : { t1 with plain := false } = t1 := by rw [← hp]
      first
        | (refine wpAny_bind ?_; refine wp_if_neg (by decide) ?_; refine wpAny_pure ?_)
        | refine wp_if_neg (by decide) (wpAny_bind (wpAny_pure ?_))
      have z := fin false
      rw [e1] at z
      exact z
theorem fresh0 {h : Heap} (ho : h.get? a = some { cls := .type "set", dict := none, data := .set #[] 0 (.fresh 0 0 (!w.params.followText "set-order")) }) : Few w hf h a [] #[] 0 (.fresh 0 0 (!w.params.followText "set-order")) where
  ob := ⟨_, ho, ⟨rfl, rfl, rfl⟩, rfl⟩
  rows := rfl
  tab := ⟨List.Pairwise.nil, rfl, rfl, .inl rfl, fun z hz => (by cases hz), fun i _ _ hi => (by simp at hi)⟩
  mask := rfl
  few := by decide
  nd := List.nodup_nil
  mem := fun p hp => (by cases hp)
  led := by
    show w.params.followText "set-order" = true ∨ (!w.params.followText "set-order") = true
    cases w.params.followText "set-order" <;> simp
end
section
variable {P : Program} {w : World} {A : Around} {E : Value → Shared → Prop} {s : Shared} {k k' : Str × Int} {a x y : Addr}
/-- both put into a new set -/
theorem two_in (D : Deed s.heap k x) (D' : Deed s.heap k' y) (room : A.units + 8 < cLine) (ho : s.heap.get? a = some { cls := .type "set", dict := none, data := .set #[] 0 (.fresh 0 0 (!w.params.followText "set-order")) }) {Q : Shared → Prop}
    (q : ∀ h' tk (L : List Ent) es ep t, Heap.SameBut a s.heap h' → Few w (hs w) h' a L es ep t → L.Perm (if k' = k then [(x, k)] else [(y, k'), (x, k)]) → Q { s with heap := h', toks := tk }) :
    wpAny (model P w) A (setAdd a (.ref x)) (fun _ s1 => wpAny (model P w) A (setAdd a (.ref y)) (fun _ s2 => Q s2) E s1) E s := by
  have r : (nestedKind P w).room A := room
  unfold setAdd
  refine wpAny_holding (wpAny_bind ((nestedKind P w).pyHash (k := nk k) r D.nested ?_))
  refine add2 (s := { s with toks := s.toks + (nk k).draws }) (fresh0 (hf := hs w) ho) (Nat.zero_le _) D room fun b h1 L1 es1 ep1 t1 sb1 R1 _ c1 => ?_
  have pm1 := c1 (by simp)
  have e1 : L1 = [(x, k)] := List.perm_singleton.mp pm1
  subst e1
  have D2 : Deed h1 k' y := by
    obtain ⟨o, _, _, hd⟩ := (fresh0 (hf := hs w) ho).ob
    exact D'.but (a := a) ho rfl sb1
  refine wpAny_holding (wpAny_bind ((nestedKind P w).pyHash (k := nk k') r (s := { s with heap := h1, toks := s.toks + (nk k).draws }) D2.nested ?_))
  refine add2 (s := { s with heap := h1, toks := s.toks + (nk k).draws + (nk k').draws }) R1 (Nat.le_refl _) D2 room fun b h2 L2 es2 ep2 t2 sb2 R2 c2 c3 => ?_
  refine q h2 _ L2 es2 ep2 t2 (sb1.trans sb2) R2 ?_
  by_cases e : k' = k
  · rw [if_pos e, c2 (by simp [e])]
  · rw [if_neg e]
    exact c3 (by simp [e])
end
end ZS
end
section
set_option linter.all false
set_option maxRecDepth 100000
namespace ZS
open PySem PySem.Spec PyProof.Rows L2
section
variable {P : Program} {w : World} {A : Around} {E : Value → Shared → Prop} {s : Shared} {Q : Value → Shared → Prop}
/-- a display of two, written out -/
theorem display {e1 e2 : Expr} {pos : Pos} {env : Env} {K : PySem.W.Frag} (X : K.In s.heap) (hcd : PySem.W.kdsCode K env.code = true) (p1 : PySem.W.kdsPlain e1 = true) (p2 : PySem.W.kdsPlain e2 = true)
    (q : wpAny (model P w) A (eval e1 env) (fun u s1 => wpAny (model P w) A (eval e2 env) (fun v s2 => wpAny (model P w) A (setAdd s.heap.objs.size u) (fun _ s3 => wpAny (model P w) A (setAdd s.heap.objs.size v) (fun _ s4 => Q (.ref s.heap.objs.size) s4) E s3) E s2) E s1) E (DL.sNew w s)) :
    wpAny (model P w) A (eval (.Set [e1, e2] 0 pos) env) Q E s := by
  rw [arm_eval_Set]
  refine wpAny_bind (wpAny_standAt ?_)
  refine wpAny_bind (PySem.W.kds_main X hcd fun b => ?_)
  rw [PySem.W.kds_star [e1, e2] (by rw [List.all_cons, List.all_cons, List.all_nil, p1, p2]; rfl), List.map_map]
  have road : displayRoad 0 [e1, e2] = DisplayRoad.oneByOne := rfl
  rw [road]
  unfold setDisplay
  try dsimp only
  rw [if_neg (by decide)]
  refine wpAny_bind (PpSet.newSet_ok ?_)
  have nil : evalEach [] env = [] := by
    have z := PySem.W.kds_len (env := env) []
    exact List.eq_nil_of_length_eq_zero z
  rw [arm_evalEach_cons, arm_evalEach_cons, nil]
  have two : ∀ (T1 T2 : Bool × Sem Value) (F : List (Bool × Sem Value) → Nat → Sem Value), T1.1 = false → T2.1 = false → wpAny (model P w) A (F [T1, T2] 2) Q E (DL.sNew w s) →
      wpAny (model P w) A (F [T1, T2] (if [T1, T2].length > 30 then 0 else ([T1, T2].findIdx? (fun x => x.1)).getD [T1, T2].length)) Q E (DL.sNew w s) := fun T1 T2 F h1 h2 h => by
    have n2 : (if [T1, T2].length > 30 then 0 else ([T1, T2].findIdx? (fun x => x.1)).getD [T1, T2].length) = 2 := by
      rw [if_neg (by simp)]
      simp [List.findIdx?_cons, h1, h2]
    rw [n2]
    exact h
  refine two (false, do let v ← eval e1 env; standAt pos; pure v) (false, do let v ← eval e2 env; standAt pos; pure v) (fun l n => do
    holding [Value.ref s.heap.objs.size] do
      let first ← evalAll ((l.take n).map (·.2))
      holding first do
        for x in first do let _ ← setAdd s.heap.objs.size x
        if (DisplayRoad.oneByOne == .unsure) = true then do
          rule "set.display.perhaps-of-constants"
          setUnled s.heap.objs.size
      for (star, x) in l.drop n do
        let v ← x
        if star then holding [v] (setDisplayStar s.heap.objs.size v)
        else let _ ← holding [v] (setAdd s.heap.objs.size v)
    pure (Value.ref s.heap.objs.size)) rfl rfl ?_
  dsimp only [List.take, List.drop, List.map]
  have all := PySem.W.kds_all (M := model P w) (A := A) (E := E) (env := env) pos [e1, e2] (DL.sNew w s) (fun vs s' => PySem.W.KdsFill (model P w) A E false s.heap.objs.size Q vs s') (by
    refine wpAny_mono q (fun u s1 q1 => ?_) fun _ _ z => z
    refine wpAny_mono q1 (fun v s2 q2 => ?_) fun _ _ z => z
    refine wpAny_mono q2 (fun _ s3 q3 => ?_) fun _ _ z => z
    refine wpAny_mono q3 (fun _ s4 q4 => ?_) fun _ _ z => z
    exact PySem.W.kds_fill_nil rfl q4)
  rw [arm_evalEach_cons, arm_evalEach_cons, nil] at all
  refine wpAny_bind (wpAny_holding ?_)
  refine wpAny_bind (wpAny_mono all (fun vs s' q1 => ?_) fun _ _ z => z)
  refine wpAny_bind (wpAny_holding ?_)
  refine wpAny_bind (wpAny_mono (PySem.W.kds_for (fun x R s1 hx => ?_) vs s' q1) (fun _ s1 q2 => ?_) fun _ _ z => z)
  · refine wpAny_bind (wpAny_mono hx (fun _ s2 h2 => ?_) fun _ _ z => z)
    first | exact wpAny_pure ⟨rfl, h2⟩ | exact wpAny_bind (wpAny_pure (wpAny_pure ⟨rfl, h2⟩))
  · have q3 : Q (.ref s.heap.objs.size) s1 := by simpa [PySem.W.KdsFill] using q2
    rw [if_neg (by decide)]
    refine wpAny_pure ?_
    rw [List.forIn_nil]
    exact wpAny_pure (wpAny_pure q3)
end
end ZS
end
section
set_option linter.all false
set_option maxRecDepth 100000
namespace ZS
open PySem PySem.Spec PyProof.Rows L2
abbrev dd (k : Str × Int) : PyData := .tuple [.str k.1, .int k.2]
abbrev leK : (Str × Int) → (Str × Int) → Bool := PySem.W.dataLe false dd
theorem alike_dd (k k' : Str × Int) : PySem.W.alike (dd k) (dd k') = true := by
  show PySem.W.alikeAll [PyData.str k.fst, PyData.int k.snd] [PyData.str k'.fst, PyData.int k'.snd] = true
  rfl
theorem lt_dd (k k' : Str × Int) : PySem.W.dataLt (dd k) (dd k') = if k.1 = k'.1 then decide (k.2 < k'.2) else decide (k.1.cps.toList < k'.1.cps.toList) := by
  rw [PySem.W.dataLt_pair (by simp [PySem.W.alike]) (by simp [PySem.W.alike]), PySem.W.dataLt_int, PySem.W.dataLt_str]
  simp only [PyData.eqv, beq_iff_eq]
  by_cases h : k.1 = k'.1 <;> by_cases h2 : k.2 = k'.2 <;> simp [h, h2]
theorem leK_anti {k k' : Str × Int} (h : leK k k' = true) (g : leK k' k = true) : k = k' := by
  have h : (!PySem.W.dataLt (dd k') (dd k)) = true := h
  have g : (!PySem.W.dataLt (dd k) (dd k')) = true := g
  rw [lt_dd] at h g
  by_cases e : k.1 = k'.1
  · rw [if_pos e.symm] at h
    rw [if_pos e] at g
    simp at h g
    exact Prod.ext e (by omega)
  · rw [if_neg (fun z => e z.symm)] at h
    rw [if_neg e] at g
    simp only [Bool.not_eq_true', decide_eq_false_iff_not] at h g
    exfalso
    refine e ?_
    have z : k.1.cps.toList = k'.1.cps.toList := List.le_antisymm (List.not_lt.mp h) (List.not_lt.mp g)
    have y : k.1.cps = k'.1.cps := Array.ext' z
    cases h1 : k.1 with
    | mk a => cases h2 : k'.1 with
      | mk b => rw [h1, h2] at y; rw [show a = b from y]
theorem leK_tot : PySem.W.TotalLe leK := PySem.W.sortLe_total _ _ _
theorem sort_pm {l m : List (Str × Int)} (h : l.Perm m) : l.mergeSort leK = m.mergeSort leK :=
  List.Perm.eq_of_pairwise (le := fun a b => leK a b = true) (fun _ _ _ _ h g => leK_anti h g) (PySem.W.sort_pairwise leK_tot l) (PySem.W.sort_pairwise leK_tot m)
    (((List.mergeSort_perm _ _).trans h).trans (List.mergeSort_perm _ _).symm)
section
variable {P : Program} {w : World} {hf : Str × Int → Int} {A : Around} {E : Value → Shared → Prop} {s : Shared} {a : Addr} {L : List Ent} {es : Array (Int × Value)} {ep : Nat} {t : SetTable}
theorem Deed.reads {h : Heap} {k : Str × Int} {b : Addr} (D : Deed h k b) : ∃ as, Reads h (.ref b) (dd k) as := by
  obtain ⟨o, u, v, n, ho, hc, hd⟩ := D
  exact ⟨_, .tuple ho hc hd (.cons (.str _ _) (.cons (.int _ _) .nil))⟩
/-- each value is one of the set's, with its key -/
theorem vals_ents : ∀ {vs : List Value}, (∀ v ∈ vs, ∃ p ∈ L, v = Value.ref p.1) → ∃ M : List Ent, vs = M.map (fun p => Value.ref p.1) ∧ ∀ p ∈ M, p ∈ L
  | [], _ => ⟨[], rfl, fun p hp => (by cases hp)⟩
  | v :: vs, h => by
    obtain ⟨p, hp, e⟩ := h v List.mem_cons_self
    obtain ⟨M, e2, hm⟩ := vals_ents (vs := vs) fun u hu => h u (List.mem_cons_of_mem _ hu)
    refine ⟨p :: M, by rw [e, e2]; rfl, fun r hr => ?_⟩
    rcases List.mem_cons.mp hr with z | z
    · rw [z]; exact hp
    · exact hm r z
theorem each_ents : ∀ M : List Ent, PySem.W.EachIs (fun v (k : Str × Int) => ∃ b, v = Value.ref b ∧ (b, k) ∈ M) (M.map fun p => Value.ref p.1) (M.map (·.2))
  | [] => .nil
  | p :: M => .cons ⟨p.1, rfl, List.mem_cons_self⟩ ((each_ents M).mono fun v k ⟨b, e, m⟩ => ⟨b, e, List.mem_cons_of_mem _ m⟩)
theorem sorted_few (R : Few w hf s.heap a L es ep t) (hh : A.handled = none) (room : A.units + 64 < cLine) {Q : Value → Shared → Prop}
    (q : ∀ s' p (out : List Value) c, (∀ b o, s.heap.get? b = some o → s'.heap.get? b = some o) → s'.gens = s.gens → s'.os = s.os → s.heap.objs.size ≤ p → s'.heap.get? p = some (seqObj "list" out.toArray c) →
      PySem.W.EachIs (fun v (k : Str × Int) => ∃ b, v = Value.ref b ∧ (b, k) ∈ L) out ((L.map (·.2)).mergeSort leK) → out.length ≤ 2 → Q (.ref p) s') :
    wpAny (model P w) A (call (.builtin "sorted") [.ref a]) Q E s := by
  obtain ⟨o, ho, hex, hd⟩ := R.ob
  have few := R.few
  have sz := R.size
  refine Calls.call_function_entry kind_sorted plain_sorted entry_sorted (args_sorted1 _) ?_
  unfold Builtin.«sorted»
  refine wpAny_bind (m := checkCount "sorted" 1 1 _) (wpAny_pure ?_)
  refine wpAny_bind (collect_set (A := A.in1) hh ⟨o, ho, hex.1, hd⟩ R.fits (by unfold scanBound; omega) R.tab.ris R.led fun s1 vs k1 hz g1 o1 pm => ?_)
  have em : es.toList.map (·.2) = L.map fun p => Value.ref p.1 := by
    rw [R.rows, List.map_map]
    rfl
  rw [em] at pm
  obtain ⟨M, eM, hM⟩ := vals_ents (L := L) (vs := vs) fun v hv => by
    obtain ⟨p, hp, e⟩ := List.mem_map.mp (pm.mem_iff.mp hv)
    exact ⟨p, hp, e.symm⟩
  have inj : ∀ p ∈ L, ∀ r ∈ L, p.1 = r.1 → p = r := fun p hp r hr e => by
    have d1 := (R.mem p hp).nested (P := P) (w := w)
    have d2 := (R.mem r hr).nested (P := P) (w := w)
    rw [e] at d1
    have z := (nestedKind P w).inj d1 d2
    have z2 : decide (nk p.2 = nk r.2) = true := decide_eq_true z
    rw [nk_eq] at z2
    exact Prod.ext e (of_decide_eq_true z2)
  have nL : L.Nodup := List.Pairwise.of_map (·.2) (fun _ _ ne e => ne (congrArg _ e)) R.nd
  have nref : (L.map fun p => Value.ref p.1).Nodup := List.pairwise_map.mpr (List.Pairwise.imp_of_mem (fun {p r} hp hr ne e => by
    injection e with e
    exact ne (inj p hp r hr e)) nL)
  have nM : M.Nodup := by
    have z := pm.nodup_iff.mpr nref
    rw [eM] at z
    exact List.Pairwise.of_map _ (fun _ _ ne e => ne (by rw [e])) z
  have pML : M.Perm L := (List.perm_ext_iff_of_nodup nM nL).mpr fun p => ⟨hM p, fun hp => by
    have m : Value.ref p.1 ∈ vs := pm.mem_iff.mpr (List.mem_map.mpr ⟨p, hp, rfl⟩)
    rw [eM] at m
    obtain ⟨r, hr, e⟩ := List.mem_map.mp m
    injection e with e
    rw [← inj r (hM r hr) p hp e]
    exact hr⟩
  have len : vs.length ≤ 2 := by rw [pm.length_eq, List.length_map]; exact few
  refine wpAny_bind (wpAny_newList ?_ (by rw [sizeLine_eq]; omega))
  have hl : (s1.heap.push (seqObj "list" vs.toArray 0)).get? s1.heap.objs.size = some (seqObj "list" vs.toArray 0) := Heap.get?_push_size _ rfl
  have each : PySem.W.EachIs (fun v (k : Str × Int) => ∃ b, v = Value.ref b ∧ (b, k) ∈ L) vs (M.map (·.2)) := by
    rw [eM]
    exact (each_ents M).mono fun v k ⟨b, e, m⟩ => ⟨b, e, hM _ m⟩
  have rd : PySem.W.EachIs (fun v (k : Str × Int) => ∃ as, Reads (s1.heap.push (seqObj "list" vs.toArray 0)) v (dd k) as ∧ s1.heap.objs.size ∉ as) vs (M.map (·.2)) := each.mono fun v k ⟨b, e, m⟩ => by
    have D0 := R.mem _ m
    obtain ⟨o', u, v', n, ho', hc, hd'⟩ := D0.keep fun c o e => Heap.get?_push_of_some (seqObj "list" vs.toArray 0) (k1 c o e)
    subst e
    exact ⟨_, .tuple ho' hc hd' (.cons (.str _ _) (.cons (.int _ _) .nil)), by simp⟩
  have al : PySem.W.AllAlike ((M.map (·.2)).map dd) := fun d hd d' hd' => by
    obtain ⟨k, _, rfl⟩ := List.mem_map.mp hd
    obtain ⟨k', _, rfl⟩ := List.mem_map.mp hd'
    exact alike_dd k k'
  have so : PySem.W.Sortable ((M.map (·.2)).map dd) := .inl fun d hd => by
    obtain ⟨k, _, rfl⟩ := List.mem_map.mp hd
    exact ⟨_, _, rfl⟩
  refine wpAny_bind (wpAny_holding (PySem.W.list_sort_data (s := { s1 with heap := s1.heap.push (seqObj "list" vs.toArray 0) }) (enc := dd) (bs := M.map (·.2)) hl each rd al so (by rw [List.length_map, ← List.length_map (f := fun p : Ent => Value.ref p.1), ← eM, sizeLine_eq]; omega) (fun k _ => ?_) fun out lo eo => ?_))
  · show A.in1.units + 1 + (dd k).depth < cLine
    have d : (dd k).depth ≤ 8 := by simp [PyData.depth, PyData.depthAll]
    have e : A.in1.units = A.units + 1 := rfl
    omega
  · obtain ⟨c, hc⟩ := sortedHeap_at (vs := vs) (out := out.toArray) hl
    have eo2 : PySem.W.EachIs (fun v (k : Str × Int) => ∃ b, v = Value.ref b ∧ (b, k) ∈ L) out ((L.map (·.2)).mergeSort leK) := by
      rw [← sort_pm (pML.map (·.2))]
      exact eo
    refine wpAny_pure ⟨_, rfl, q _ s1.heap.objs.size out c (fun b u e => ?_) g1 o1 hz hc eo2 ?_⟩
    · have e1 := k1 b u e
      have lt := Heap.lt_size e1
      show (sortedHeap (s1.heap.push (seqObj "list" vs.toArray 0)) s1.heap.objs.size vs out.toArray).get? b = some u
      rw [sortedHeap_old (Nat.ne_of_lt lt) (by rw [size_push']; exact Nat.lt_succ_of_lt lt)]
      exact Heap.get?_push_of_some _ e1
    · rw [lo, List.length_map, pML.length_eq]
      exact few
end
end ZS
end
section
set_option linter.all false
set_option maxRecDepth 100000
namespace DL
open PySem PySem.Spec PyProof.Rows L2 ZS
def keyOfD : D → Option (Str × Int)
  | .tuple [.str x, .int i] => some (x, i)
  | _ => none
def dSortS2 (d e : D) : Option D := match keyOfD d, keyOfD e with
  | some k, some k' => some (.list (((if k' = k then [k] else [k', k]).mergeSort leK).map dd))
  | _, _ => none
theorem keyOfD_dd {d : D} {k : Str × Int} (h : keyOfD d = some k) : d = dd k := by
  unfold keyOfD at h
  split at h
  · cases h; rfl
  · cases h
/-- a def whose code object is known to be one -/
theorem fn_okC {P : Program} {w : World} {K : PySem.W.Frag} {mg : Str → Option Value} {base : Heap} {x qual : Str} {st : Stmt} {f : Addr} {fd : FuncData} {Ns ps : List Str} {m : Nat} {k : Kd} {fb : FS} (F : Fun K x qual st f fd) (S : FnScope Ns ps (defScope st))
    (hbody : ∀ (cdv : Value) (A : Around) (outer : List Env) (s : Shared) (H : Hp) (E : XK), PySem.W.kdsCode K cdv = true → Room m (A.deeper (envOfC qual (defScope st) s.heap.objs.size f cdv)) → A.guards = some [] →
      XSs (cxOf CX0 P w K mg base Ns qual (defScope st) f cdv A outer s H E).nox k (defBody st) fb) : FnG P w K mg base (m + 1) f fd ps (spD K k ps.length (fnF Ns.length k fb)) := by
  obtain ⟨oc, od, kV, doc, pm, an, cdv, ct, osl, rfl, lk, hcd⟩ := F.ex
  have len : ∀ vs H Q E, spD K k ps.length (fnF Ns.length k fb) vs H Q E → vs.length = ps.length := fun vs H Q E ⟨ω, N, b, ss, hl, om, dom, ⟨orc, tb⟩, h, q⟩ => h.length.symm.trans hl
  refine ⟨len, fun {A} hg hr {outer s H args us vs Q E} e0 hb hv hs => LamX.run_ofS lk hcd S hr e0 hb hv (len _ _ _ _ hs) fun hr' => ?_⟩
  obtain ⟨ω, N, b, ss, hl, om, dom, ⟨orc, tb⟩, h, q⟩ := hs
  refine ⟨_, (hbody cdv A outer s H E (kdsCode_of hcd) hr' hg).nox, ?_⟩
  refine ⟨ω, N, N, H, b, startE Ns.length ss, rep_start om dom orc tb h, fun _ z => z, dom, Tr.All_mono ((Tr.All_bind _ _ _ _).mp q) fun o c qa => ?_⟩
  cases o with
  | nx env' =>
    cases k with
    | v => exact fun N' H' σ' r n0 p => qa .non H' r.keep r.orc .non
    | b => exact qa.elim
    | o => exact qa.elim
    | t => exact qa.elim
  | bk env' => exact qa.elim
  | ct env' => exact qa.elim
  | rv d => exact qa
section
variable {X : Cx} {pins : List (Addr × Obj)} {σ : L2.St} {H : Hp} {s : Shared}
theorem in_deed {N : Addr → Prop} {v : V} {u : Value} {k : Str × Int} (I : Inv X pins σ H s) (h : In X.K N H v (dd k)) (r : RelV v u) : ∃ b, v = .ref b ∧ u = .ref b ∧ Deed s.heap k b := by
  have h : In X.K N H v (.tuple [.str k.1, .int k.2]) := h
  obtain ⟨b, xs, rfl, hb, h1⟩ := h.tuple_inv
  cases r
  obtain ⟨its, rv, ⟨o, ho, hc, n, hd⟩, _⟩ := I.tuple hb
  refine ⟨b, rfl, rfl, o, ?_⟩
  cases h1 with
  | cons h1 t => cases t with
    | cons h2 t => cases t with
      | nil =>
        cases h1.str_inv
        cases h2.int_inv
        cases rv with
        | cons r1 rv => cases rv with
          | cons r2 rv => cases rv with
            | nil =>
              obtain ⟨t1, rfl⟩ := r1
              obtain ⟨t2, rfl⟩ := r2
              exact ⟨t1, t2, n, ho, hc, hd⟩
end
theorem in_list {K : PySem.W.Frag} {N : Addr → Prop} {H : Hp} {L : List Ent} (hL : ∀ p ∈ L, In K N H (.ref p.1) (dd p.2)) : ∀ {us : List Value} {ks : List (Str × Int)}, PySem.W.EachIs (fun v k => ∃ b, v = Value.ref b ∧ (b, k) ∈ L) us ks → ∃ xs, Vals xs us ∧ InAll K N H xs (ks.map dd)
  | _, _, .nil => ⟨[], .nil, .nil⟩
  | _, _, .cons ⟨b, e, m⟩ t => by
    obtain ⟨xs, r, h⟩ := in_list hL t
    exact ⟨.ref b :: xs, .cons (by rw [e]; exact rfl) r, .cons (hL _ m) h⟩
theorem xe_sortS2 {X : Cx} {a b : Expr} {f g : FE} {p q pos : Pos} (hcd : PySem.W.kdsCode X.K X.env.code = true) (hu : X.A.units + 64 < cLine) (hGg : Gl X "sorted") (hMm : X.mg "sorted" = none) (ha : XE X .v a f) (hb : XE X .v b g) (hCc : X.calm = true := by rfl)
    (pa : PySem.W.kdsPlain a = true := by rfl) (pb : PySem.W.kdsPlain b = true := by rfl) (hbt : bootBuiltins "sorted" = some (.builtin "sorted") := by decide +kernel) : XE X .o (.Call (.Name "sorted" p) [.Set [a, b] 0 q] [] pos) (e2 dSortS2 f g) := by
  refine ⟨fun pnz s σ H Q I h => ?_⟩
  obtain ⟨ω, N, E, c, env, r, qq⟩ := h
  refine Call_ (ld_blt I hGg hMm hbt ?_)
  refine PyProof.Rows.callWith_builtin1 (PyProof.Rows.args_cons ?_ rfl) rfl rfl
  refine display (P := X.prog) (w := X.w) I.kIn hcd pa pb ?_
  have lt : ∀ o, (sNew X.w s).heap.get? s.heap.objs.size = some o → o = { cls := .type "set", dict := none, data := .set #[] 0 (.fresh 0 0 (!X.w.params.followText "set-order")) } := fun o e => by
    rw [Heap.get?_push_size _ rfl] at e
    exact (Option.some.inj e).symm
  have hD : H s.heap.objs.size = none := I.hok.fresh (Nat.le_refl _)
  have fp := Inv.fpOk I (Nat.le_refl _) hD
  obtain ⟨f0, f1, f2, f3, f4, f5⟩ := fp
  have I0 : Inv X pnz σ H (sNew X.w s) := I.kept (t' := s.toks) fun b o e => Heap.get?_push_of_some _ e
  have o0 : (sNew X.w s).heap.get? s.heap.objs.size = some { cls := .type "set", dict := none, data := .set #[] 0 (.fresh 0 0 (!X.w.params.followText "set-order")) } := Heap.get?_push_size _ rfl
  have Ip : Inv X (pnz ++ [(s.heap.objs.size, { cls := .type "set", dict := none, data := .set #[] 0 (.fresh 0 0 (!X.w.params.followText "set-order")) })]) σ H (sNew X.w s) := I0.pins_of fun p hp => by
    rcases List.mem_append.mp hp with z | z
    · exact I0.pin p (List.mem_append_right _ z)
    · rw [List.mem_singleton.mp z]
      exact ⟨o0, hD, f1, f2, fun v e => nomatch e⟩
  refine thn (ha.run _ (sNew X.w s) σ H (fun v H1 => ∃ d c1, In X.K N H1 v d ∧ Keep ω H H1 ∧ RepE X.K ω N E H1 c1 env σ ∧ (g env).All c1 fun e c2 => (Tr.ofOpt (dSortS2 d e)).All c2 fun z c3 => ∀ v H', Keep ω H H' → OrcO ω c3 H' → RK X.K ω N H H' .o v z → Q v H') Ip
    ⟨ω, N, E, c, env, r, Tr.All_mono ((Tr.All_bind _ _ _ _).mp qq) fun d c1 qa v H1 k1 o1 i1 => ⟨d, c1, i1, k1, r.move k1 o1, (Tr.All_bind _ _ _ _).mp qa⟩⟩) fun u s1 ⟨v, H1, I1, rv1, d, c1, i1, k1, r1, q1⟩ => ?_
  refine thn (hb.run _ s1 σ H1 (fun v' H2 => ∃ e c2, In X.K N H2 v' e ∧ In X.K N H2 v d ∧ Keep ω H H2 ∧ RepE X.K ω N E H2 c2 env σ ∧ (Tr.ofOpt (dSortS2 d e)).All c2 fun z c3 => ∀ v H', Keep ω H H' → OrcO ω c3 H' → RK X.K ω N H H' .o v z → Q v H') I1
    ⟨ω, N, E, c1, env, r1, Tr.All_mono q1 fun e c2 qa v' H2 k2 o2 i2 => ⟨e, c2, i2, i1.keep r1.om k2, k1.trans k2, r1.move k2 o2, qa⟩⟩) fun u' s2 ⟨v', H2, I2, rv2, e, c2, i2, i1', k2, r2, q2⟩ => ?_
  have pD := I2.pin _ (List.mem_append_right _ (List.mem_append_right _ (List.mem_singleton.mpr rfl)))
  have oD : s2.heap.get? s.heap.objs.size = some { cls := .type "set", dict := none, data := .set #[] 0 (.fresh 0 0 (!X.w.params.followText "set-order")) } := pD.1
  have nD : H2 s.heap.objs.size = none := pD.2.1
  have I2 : Inv X pnz σ H2 s2 := I2.pins_of fun p hp => I2.pin p (List.mem_append_right _ (List.mem_append_left _ hp))
  unfold dSortS2 at q2
  split at q2
  rotate_left
  · exact q2.elim
  rename_i k k' ek ek'
  have q2 := q2
  obtain rfl := keyOfD_dd ek
  obtain rfl := keyOfD_dd ek'
  obtain ⟨x, rfl, rfl, D1⟩ := in_deed I2 i1' rv1
  obtain ⟨y, rfl, rfl, D2⟩ := in_deed I2 i2 rv2
  refine ZS.two_in (P := X.prog) (w := X.w) D1 D2 (by omega) oD fun h' tk L es ep t sb R pm => ?_
  have I3 : Inv X pnz σ H2 { s2 with heap := h', toks := tk } := I2.turned (t' := tk) (fun b o hb e => (sb.2 b hb).trans e) nD f1 f3 f4 f5
  refine PyProof.Rows.args_nil ?_
  refine sorted_few (s := { s2 with heap := h', toks := tk }) R (I3.ok.hd hCc) hu fun s' p out cc kp hg ho hp hout each few => ?_
  have hn : H2 p = none := I3.hok.fresh hp
  have hL : ∀ r ∈ L, In X.K N H2 (.ref r.1) (dd r.2) := fun r hr => by
    have z := pm.mem_iff.mp hr
    split at z
    · rw [List.mem_singleton.mp z]
      exact i1'
    · rcases List.mem_cons.mp z with z | z
      · rw [z]; exact i2
      · rw [List.mem_singleton.mp z]; exact i1'
  obtain ⟨xs, rx, hxs⟩ := in_list hL each
  have es : (L.map (·.2)).mergeSort leK = (if k' = k then [k] else [k', k]).mergeSort leK := by
    refine sort_pm ((pm.map (·.2)).trans ?_)
    split <;> exact List.Perm.refl _
  rw [es] at hxs
  have hlen : xs.length ≤ sizeLine := by rw [rx.length, sizeLine_eq]; omega
  have J := Inv.call (s := { s2 with heap := h', toks := tk }) (h' := s'.heap) (H' := upd H2 p (.lst xs)) (g' := s'.gens) (t' := s'.toks) (d' := s'.drawn) (ch := []) I3 (Un.laid kp hp hn) (I3.hok.laid kp hp ⟨hlen, out, cc, rx, hout⟩) (by rw [hg]; exact I3.bare) (fun _ z => nomatch z)
  have eS : s' = { s2 with heap := s'.heap, gens := s'.gens, drawn := s'.drawn, toks := s'.toks } := by
    cases s'
    cases s2
    cases ho
    rfl
  rw [eS]
  have rk := RK.newLst (ω := ω) hxs hn
  have kk : Keep ω H (upd H2 p (.lst xs)) := k2.trans (Keep.of (same_new hn))
  have oc : OrcO ω c2 (upd H2 p (.lst xs)) := r2.orc.same (same_new hn)
  refine ⟨.ref p, _, J, rfl, q2 (.ref p) _ kk oc ?_⟩
  obtain ⟨p', e', hn', ho'⟩ := rk
  cases e'
  exact ⟨p, rfl, k2.none r2.orc hn, ho'⟩
end DL
end
section
set_option linter.all false
set_option maxRecDepth 100000
namespace ZS
open PySem PySem.Spec PyProof.Rows L2
section
variable {P : Program} {w : World} {A : Around} {E : Value → Shared → Prop} {s : Shared} {k k' : Str × Int} {x y : Addr}
theorem pair_reads {h : Heap} (D : Deed h k x) (D' : Deed h k' y) : ∃ as, ReadsAll h [Value.ref x, Value.ref y] [dd k, dd k'] as := by
  obtain ⟨as, r⟩ := D.reads
  obtain ⟨bs, r'⟩ := D'.reads
  exact ⟨_, .cons r (.cons r' .nil)⟩
theorem pair_alike (k k' : Str × Int) : PySem.W.AlikeAll [dd k, dd k'] := by
  refine ⟨fun d hd e he => ?_, fun d hd => ?_⟩
  · have a : ∃ k, d = dd k := by
      rcases List.mem_cons.mp hd with z | z
      · exact ⟨_, z⟩
      · exact ⟨_, List.mem_singleton.mp z⟩
    have b : ∃ k, e = dd k := by
      rcases List.mem_cons.mp he with z | z
      · exact ⟨_, z⟩
      · exact ⟨_, List.mem_singleton.mp z⟩
    obtain ⟨a, rfl⟩ := a
    obtain ⟨b, rfl⟩ := b
    exact alike_dd a b
  · rcases List.mem_cons.mp hd with z | z
    · rw [z]; exact fun e => nomatch e
    · rw [List.mem_singleton.mp z]; exact fun e => nomatch e
theorem min_deeds (D : Deed s.heap k x) (D' : Deed s.heap k' y) (hh : A.handled = none) (room : A.units + 64 < cLine) {Q : Value → Shared → Prop}
    (q : ∀ h' tk, (∀ b o, s.heap.get? b = some o → h'.get? b = some o) → Q (.ref (if leK k k' = true then x else y)) { s with heap := h', toks := tk }) : wpAny (model P w) A (call (.builtin "min") [.ref x, .ref y]) Q E s := by
  have nm : (toString "min" ++ toString ".loop" : String) = "min.loop" := by decide
  refine call_function_tree F.kind_min F.plain_min F.entry_min (F.args_min2 _ _) ?_
  show wpAny _ A.in1 (Builtin.Builtins.bindParams "min" ["key", "default"] 0 ⟨[], []⟩ >>= _) _ _ s
  refine wpAny_bind (wpAny_of_eq (show Builtin.Builtins.bindParams "min" ["key", "default"] 0 ⟨[], []⟩ = pure [none, none] from rfl) ?_)
  refine wpAny_bind (m := newTuple [Value.ref x, Value.ref y]) (wpAny_newObj_type ?_)
  have keep0 : ∀ c o, s.heap.get? c = some o → (s.heap.push { cls := .type "tuple", data := .seq #[Value.ref x, Value.ref y] }).get? c = some o := fun c o e => Heap.get?_push_of_some _ e
  obtain ⟨as, rd⟩ := pair_reads (D.keep keep0) (D'.keep keep0)
  have isT : (s.heap.push { cls := .type "tuple", data := .seq #[Value.ref x, Value.ref y] }).IsTuple s.heap.objs.size #[Value.ref x, Value.ref y] := ⟨_, Heap.get?_push_size _ rfl, rfl, 0, rfl⟩
  have dep : PyData.depthAll [dd k, dd k'] ≤ 8 := by simp [PyData.depth, PyData.depthAll]
  have eu : A.in1.units = A.units + 1 := rfl
  refine wpAny_bind (PySem.W.iter_tupleW (A := A.in1) (s := { s with heap := s.heap.push { cls := .type "tuple", data := .seq #[Value.ref x, Value.ref y] } }) hh isT fun s2 e2 W st hfp hw hk => ?_)
  refine wpAny_bind (wpAny_newObj_type ?_)
  have nf : s2.heap.objs.size ∉ [(s.heap.push { cls := .type "tuple", data := .seq #[Value.ref x, Value.ref y] }).objs.size, s.heap.objs.size] := fun m => Nat.lt_irrefl _ (hfp _ m)
  rw [nm]
  have cmp := PySem.W.cmpIn_lt (prog := P) (w := w) (A := A.in1) (s := { s with heap := s.heap.push { cls := .type "tuple", data := .seq #[Value.ref x, Value.ref y] } }) (vs := #[Value.ref x, Value.ref y]) rd (pair_alike k k') (by omega)
  refine wpAny_pure ⟨plainId_quiet F.plain_min_loop _, codeAny_min_loop_firstH W _ hw _ cmp s2.heap.objs.size nf (fresh_in hk) _ (show 0 < 2 from by decide) (fun b o e => Heap.get?_push_of_some _ (hk b o e)) (W.frame 0 s2 _ s2.toks st (Nat.le_refl _) fun b _ o e => Heap.get?_push_of_some _ e) (Heap.get?_push_size _ rfl) fun v s' hP hm => ?_⟩
  have hm2 := Moved.drop_new (tk := s2.toks) hm (Nat.le_refl _)
  obtain ⟨h', tk, rfl, kp⟩ := PySem.W.moved_old (s := { s with heap := s.heap.push { cls := .type "tuple", data := .seq #[Value.ref x, Value.ref y] } }) e2 rfl hm2
  have ev : v = .ref (if leK k k' = true then x else y) := by
    have hP : (#[Value.ref x, Value.ref y] : Array Value)[if PySem.W.dataLt (dd k') (dd k) = true then 1 else 0]? = some v := hP
    have e3 : leK k k' = !PySem.W.dataLt (dd k') (dd k) := rfl
    rw [e3]
    cases hc : PySem.W.dataLt (dd k') (dd k) with
    | true =>
      rw [hc] at hP
      have hP : some (Value.ref y) = some v := hP
      cases hP
      rfl
    | false =>
      rw [hc] at hP
      have hP : some (Value.ref x) = some v := hP
      cases hP
      rfl
  rw [ev]
  exact q h' tk fun b o e => kp b o (keep0 b o e)
theorem max_deeds (D : Deed s.heap k x) (D' : Deed s.heap k' y) (hh : A.handled = none) (room : A.units + 64 < cLine) {Q : Value → Shared → Prop}
    (q : ∀ h' tk, (∀ b o, s.heap.get? b = some o → h'.get? b = some o) → Q (.ref (if leK k' k = true then x else y)) { s with heap := h', toks := tk }) : wpAny (model P w) A (call (.builtin "max") [.ref x, .ref y]) Q E s := by
  have nm : (toString "max" ++ toString ".loop" : String) = "max.loop" := by decide
  refine call_function_tree F.kind_max F.plain_max F.entry_max (F.args_max2 _ _) ?_
  show wpAny _ A.in1 (Builtin.Builtins.bindParams "max" ["key", "default"] 0 ⟨[], []⟩ >>= _) _ _ s
  refine wpAny_bind (wpAny_of_eq (show Builtin.Builtins.bindParams "max" ["key", "default"] 0 ⟨[], []⟩ = pure [none, none] from rfl) ?_)
  refine wpAny_bind (m := newTuple [Value.ref x, Value.ref y]) (wpAny_newObj_type ?_)
  have keep0 : ∀ c o, s.heap.get? c = some o → (s.heap.push { cls := .type "tuple", data := .seq #[Value.ref x, Value.ref y] }).get? c = some o := fun c o e => Heap.get?_push_of_some _ e
  obtain ⟨as, rd⟩ := pair_reads (D.keep keep0) (D'.keep keep0)
  have isT : (s.heap.push { cls := .type "tuple", data := .seq #[Value.ref x, Value.ref y] }).IsTuple s.heap.objs.size #[Value.ref x, Value.ref y] := ⟨_, Heap.get?_push_size _ rfl, rfl, 0, rfl⟩
  have dep : PyData.depthAll [dd k, dd k'] ≤ 8 := by simp [PyData.depth, PyData.depthAll]
  have eu : A.in1.units = A.units + 1 := rfl
  refine wpAny_bind (PySem.W.iter_tupleW (A := A.in1) (s := { s with heap := s.heap.push { cls := .type "tuple", data := .seq #[Value.ref x, Value.ref y] } }) hh isT fun s2 e2 W st hfp hw hk => ?_)
  refine wpAny_bind (wpAny_newObj_type ?_)
  have nf : s2.heap.objs.size ∉ [(s.heap.push { cls := .type "tuple", data := .seq #[Value.ref x, Value.ref y] }).objs.size, s.heap.objs.size] := fun m => Nat.lt_irrefl _ (hfp _ m)
  rw [nm]
  have cmp := PySem.W.cmpIn_gt (prog := P) (w := w) (A := A.in1) (s := { s with heap := s.heap.push { cls := .type "tuple", data := .seq #[Value.ref x, Value.ref y] } }) (vs := #[Value.ref x, Value.ref y]) rd (pair_alike k k') (by omega)
  refine wpAny_pure ⟨plainId_quiet F.plain_max_loop _, codeAny_max_loop_firstH W _ hw _ cmp s2.heap.objs.size nf (fresh_in hk) _ (show 0 < 2 from by decide) (fun b o e => Heap.get?_push_of_some _ (hk b o e)) (W.frame 0 s2 _ s2.toks st (Nat.le_refl _) fun b _ o e => Heap.get?_push_of_some _ e) (Heap.get?_push_size _ rfl) fun v s' hP hm => ?_⟩
  have hm2 := Moved.drop_new (tk := s2.toks) hm (Nat.le_refl _)
  obtain ⟨h', tk, rfl, kp⟩ := PySem.W.moved_old (s := { s with heap := s.heap.push { cls := .type "tuple", data := .seq #[Value.ref x, Value.ref y] } }) e2 rfl hm2
  have ev : v = .ref (if leK k' k = true then x else y) := by
    have hP : (#[Value.ref x, Value.ref y] : Array Value)[if PySem.W.dataLt (dd k) (dd k') = true then 1 else 0]? = some v := hP
    have e3 : leK k' k = !PySem.W.dataLt (dd k) (dd k') := rfl
    rw [e3]
    cases hc : PySem.W.dataLt (dd k) (dd k') with
    | true =>
      rw [hc] at hP
      have hP : some (Value.ref y) = some v := hP
      cases hP
      rfl
    | false =>
      rw [hc] at hP
      have hP : some (Value.ref x) = some v := hP
      cases hP
      rfl
  rw [ev]
  exact q h' tk fun b o e => kp b o (keep0 b o e)
end
end ZS
namespace DL
open PySem PySem.Spec PyProof.Rows L2 ZS
def dMin2D : List D → Option D
  | [d, e] => match keyOfD d, keyOfD e with
    | some k, some k' => some (if leK k k' = true then d else e)
    | _, _ => dMin2 [d, e]
  | _ => none
def dMax2D : List D → Option D
  | [d, e] => match keyOfD d, keyOfD e with
    | some k, some k' => some (if leK k' k = true then d else e)
    | _, _ => dMax2 [d, e]
  | _ => none
theorem inB_key {K : PySem.W.Frag} {ω : Option Om} {N : Addr → Prop} {H : Hp} {v : V} {d : D} {k : Str × Int} (h : InB K ω N H v d) (e : keyOfD d = some k) : In K N H v (dd k) := by
  obtain rfl := keyOfD_dd e
  exact InB.tuple2 h
section
variable {X : Cx}
theorem c_min2D (hu : X.A.units + 64 < cLine) (hc : X.calm = true) : CallR X (.builtin "min") (rDn X.K dMin2D .v) := by
  intro pins s σ H xs us Q I rx ⟨ω, N, ds, d, om, dom, hx, hg, k⟩
  match ds, hg, hx with
  | [d1, d2], hg, hx =>
    obtain ⟨v, u, rfl, h, h2⟩ := InBs.two hx
    simp only [dMin2D] at hg
    split at hg
    · rename_i ka kb ea eb
      cases hg
      obtain ⟨u1, u2, rfl, r1, r2⟩ := vals2 rx
      have g1 := inB_key h ea
      have g2 := inB_key h2 eb
      obtain ⟨b1, rfl, rfl, D1⟩ := in_deed I g1 r1
      obtain ⟨b2, rfl, rfl, D2⟩ := in_deed I g2 r2
      refine min_deeds (P := X.prog) (w := X.w) D1 D2 (I.ok.hd hc) hu fun h' tk kp => ?_
      refine ⟨.ref (if leK ka kb = true then b1 else b2), H, I.kept kp, rfl, k _ H (Same.refl H) ?_⟩
      rw [keyOfD_dd ea, keyOfD_dd eb]
      cases leK ka kb with
      | true => exact g1
      | false => exact g2
    · exact c_min2 hc pins s σ H _ us Q I rx ⟨ω, N, [d1, d2], d, om, dom, hx, hg, k⟩
theorem c_max2D (hu : X.A.units + 64 < cLine) (hc : X.calm = true) : CallR X (.builtin "max") (rDn X.K dMax2D .v) := by
  intro pins s σ H xs us Q I rx ⟨ω, N, ds, d, om, dom, hx, hg, k⟩
  match ds, hg, hx with
  | [d1, d2], hg, hx =>
    obtain ⟨v, u, rfl, h, h2⟩ := InBs.two hx
    simp only [dMax2D] at hg
    split at hg
    · rename_i ka kb ea eb
      cases hg
      obtain ⟨u1, u2, rfl, r1, r2⟩ := vals2 rx
      have g1 := inB_key h ea
      have g2 := inB_key h2 eb
      obtain ⟨b1, rfl, rfl, D1⟩ := in_deed I g1 r1
      obtain ⟨b2, rfl, rfl, D2⟩ := in_deed I g2 r2
      refine max_deeds (P := X.prog) (w := X.w) D1 D2 (I.ok.hd hc) hu fun h' tk kp => ?_
      refine ⟨.ref (if leK kb ka = true then b1 else b2), H, I.kept kp, rfl, k _ H (Same.refl H) ?_⟩
      rw [keyOfD_dd ea, keyOfD_dd eb]
      cases leK kb ka with
      | true => exact g1
      | false => exact g2
    · exact c_max2 hc pins s σ H _ us Q I rx ⟨ω, N, [d1, d2], d, om, dom, hx, hg, k⟩
/-- sorted of a list of tuples, the one tuple of nothing too -/
def dSortB : List D → Option D
  | [.list [.tuple []]] => some (.list [.tuple []])
  | ds => dSortA ds
end
end DL
end
section
set_option linter.all false
set_option maxRecDepth 100000
namespace DL
open PySem PySem.Spec PyProof.Rows L2 ZS
section
variable {P : Program} {w : World} {A : Around} {E : Value → Shared → Prop} {s : Shared}
theorem sort_one1 {a : Addr} {v : Value} {n : Nat} {R : PySem.Fin → Shared → Prop} (ho : s.heap.get? a = some (seqObj "list" [v].toArray n))
    (h : R (.done (.ret .none)) { s with heap := sortedHeap s.heap a [v] [v].toArray }) : wpAny (model P w) A (Builtin.«list.sort» ⟨[.ref a], []⟩) R E s := by
  refine SK.plain_sort (r := fun _ => 0) ho (show 1 < 64 from by decide) (fun h2 Q hQ => absurd (show 2 ≤ 1 from h2) (by decide)) fun ps out h1 h2 h3 => ?_
  have e : ps = [(v, v)] := List.perm_singleton.mp h2
  subst e
  have e2 : out = [v].toArray := Array.ext' h1
  rw [e2]
  exact h
theorem sorted_one {l : Addr} {v : Value} {Q : Value → Shared → Prop} (hl : s.heap.IsList l [v].toArray)
    (h : Q (.ref (s.heap.objs.size + 1)) { s with heap := sortedAll s.heap [v] [v].toArray }) : wpAny (model P w) A (call (.builtin "sorted") [.ref l]) Q E s := by
  refine Calls.call_function_entry kind_sorted plain_sorted entry_sorted (args_sorted1 _) ?_
  unfold Builtin.«sorted»
  refine wpAny_bind (m := checkCount "sorted" 1 1 _) (wpAny_pure ?_)
  have sl : (1 : Nat) ≤ sizeLine := by rw [sizeLine_eq]; decide
  refine wpAny_bind (collect_list hl ?_ sl)
  refine wpAny_bind (wpAny_newList ?_ sl)
  have sz : ((s.heap.push (seqObj "list" #[] 0)).update s.heap.objs.size (Obj.mapSeq (· ++ [v].toArray))).objs.size = s.heap.objs.size + 1 := by rw [Heap.size_update, size_push']
  have at_ : (((s.heap.push (seqObj "list" #[] 0)).update s.heap.objs.size (Obj.mapSeq (· ++ [v].toArray))).push (seqObj "list" [v].toArray 0)).get? (s.heap.objs.size + 1) = some (seqObj "list" [v].toArray 0) := by
    rw [← sz]
    exact Heap.get?_push_size _ rfl
  show wpAny _ _ _ _ _ { s with heap := ((s.heap.push (seqObj "list" #[] 0)).update s.heap.objs.size (Obj.mapSeq (· ++ [v].toArray))).push (seqObj "list" [v].toArray 0) }
  rw [sz]
  refine wpAny_bind (wpAny_holding (wpAny_call_entry slot_list_sort ⟨_, at_, rfl⟩ entry_list_sort (sort_one1 at_ ⟨_, rfl, ?_⟩) (args_list_sort _)))
  exact wpAny_pure ⟨_, rfl, h⟩
end
theorem c_sortB {X : Cx} (hu : X.A.units + 64 < cLine) : CallR X (.builtin "sorted") (rDn X.K dSortB .o) := by
  intro pins s σ H xs us Q I rx ⟨ω, N, ds, d, om, dom, hx, hg, k⟩
  unfold dSortB at hg
  split at hg
  · cases hg
    obtain ⟨v, rfl, h⟩ := InBs.one hx
    obtain ⟨a, ys, rfl, ha, h1⟩ := h.list
    obtain ⟨its, rv, hl, hz⟩ := I.list (.inl (.inl ha))
    rw [Vals.ref1 rx]
    cases h1 with
    | cons h1 t => cases t with
      | nil => cases rv with
        | cons r rv => cases rv with
          | nil =>
            rename_i y u
            refine sorted_one hl.isList ?_
            obtain ⟨ep, he'⟩ := PyProof.Rows.sortedAll_at s.heap [u] [u].toArray
            have hn : H (s.heap.objs.size + 1) = none := I.hok.fresh (Nat.le_succ _)
            exact ⟨.ref _, upd H (s.heap.objs.size + 1) (.lst [y]), I.laid (t' := s.toks) (fun _ _ => PyProof.Rows.sortedAll_old) (Nat.le_succ _) ⟨by show 1 ≤ sizeLine; rw [sizeLine_eq]; decide, [u], ep, .cons r .nil, he'⟩, rfl, k _ _ (same_new hn) (RK.newLst (.cons h1 .nil) hn)⟩
  · exact c_sortA hu pins s σ H xs us Q I rx ⟨ω, N, _, d, om, dom, hx, hg, k⟩
end DL
end
section
set_option linter.all false
set_option maxRecDepth 100000
namespace DL
open PySem PySem.Spec PyProof.Rows L2 ZS
def dLtK (d e : D) : Option D := match keyOfD d, keyOfD e with
  | some k, some k' => some (.bool (PySem.W.dataLt (dd k) (dd k')))
  | _, _ => dLt d e
theorem o_ltK {X : Cx} (hu : X.A.units + 64 < cLine) : OpR X (compareOp .Lt) (rD2 X.K dLtK .v) := by
  intro pins s σ H x y v u Q I rx ry ⟨ω, N, d, e, z, om, dom, hx, hy, hg, k⟩
  unfold dLtK at hg
  split at hg
  · rename_i ka kb ea eb
    cases hg
    have g1 := inB_key hx ea
    have g2 := inB_key hy eb
    obtain ⟨b1, rfl, rfl, D1⟩ := in_deed I g1 rx
    obtain ⟨b2, rfl, rfl, D2⟩ := in_deed I g2 ry
    obtain ⟨as, r1⟩ := D1.reads
    obtain ⟨bs, r2⟩ := D2.reads
    refine PySem.W.rcLt_alike _ _ X.A s _ _ _ _ r1 r2 (alike_dd _ _) (fun e => nomatch e) ?_ X.prog X.w _ _ ⟨.bl _, H, I, rfl, k _ H (Same.refl H) (.bl _)⟩
    have : (dd ka).depth ≤ 8 := by simp [PyData.depth, PyData.depthAll]
    have := Nat.min_le_left (dd ka).depth (dd kb).depth
    omega
  · exact o_lt pins s σ H x y v u Q I rx ry ⟨ω, N, d, e, z, om, dom, hx, hy, hg, k⟩
end DL
end
section
set_option linter.all false
set_option maxRecDepth 100000
set_option maxHeartbeats 1000000
namespace ZM
open PySem PySem.Spec PyProof.Rows RZ
section
variable {prog : Program} {w : World} {A : Around} {E : Value → Shared → Prop} {s : Shared}
variable {bb f : Bool} {z TI TO T i1 i2 l1 l2 : Addr} {oT : Obj} {k1 k2 : Nat} {xs ys : Array Value} {x y a b : Value}
/-- the first turn: the zip's own tuple is handed out -/
theorem first_itemO {Q : Value → Shared → Prop} (D : ZipApart z TI TO i1 i2 l1 l2) (hz : IsZip s.heap z TI TO .none) (hTI : IsPair s.heap TI (.ref i1) (.ref i2)) (hTO : IsPair s.heap TO a b) (h1 : s.heap.IsTupleIter i1 l1 k1) (h2 : SIt bb s.heap i2 l2 k2) (t1 : s.heap.IsTuple l1 xs) (t2 : SSq bb s.heap l2 ys) (hx : xs[k1]? = some x) (hy : ys[k2]? = some y)
    (hQ : ∀ h', IsZip h' z TI TO (rawInt s.heap.objs.size) → IsPair h' TO x y → h'.IsTupleIter i1 l1 (k1 + 1) → SIt bb h' i2 l2 (k2 + 1) → IsPair h' s.heap.objs.size x y → (∀ c o, c ≠ z → c ≠ TO → c ≠ i1 → c ≠ i2 → s.heap.get? c = some o → h'.get? c = some o) → Q (.ref s.heap.objs.size) { s with heap := h' }) :
    wpAny (model prog w) A (Builtin.«zip.__next__» ⟨[.ref z], []⟩) (fun fin s' => ∃ v, fin = .done (.ret v) ∧ Q v s') E s := by
  (show wpAny _ _ (field (.ref z) 2 >>= _) _ _ _); refine wpAny_bind (wpAny_field hz rfl (x := .bool false) rfl ?_)
  (show wpAny _ _ (field (.ref z) 3 >>= _) _ _ _); refine wpAny_bind (wpAny_field hz rfl (x := .ref TI) rfl (wpAny_bind (wpAny_seqItems hTI rfl ?_)))
  (show wpAny _ _ (Builtin.SmallTypes.ownedTupleIsFree (.ref z) >>= _) _ _ _); refine wpAny_bind ?_; unfold Builtin.SmallTypes.ownedTupleIsFree
  refine wpAny_bind (wpAny_field hz rfl (x := .none) rfl (wpAny_pure ?_)); simp only [if_true]
  refine wpAny_bind (wpAny_rule (wpAny_bind (wpAny_field hz rfl (x := .ref TO) rfl ?_)))
  refine wpAny_bind (wpAny_setField_rec hz (by simp) fun ha za sa => ?_); replace za : IsZip ha z TI TO .ellipsis := za
  refine wpAny_bind ?_; simp only [List.zipIdx_cons, List.zipIdx_nil, List.forIn_cons, List.forIn_nil]; refine wpAny_bind (wpAny_bind (wpAny_onRaise ?_))
  (show wpAny _ _ (Builtin.SmallTypes.nextOf (.ref i1) >>= _) _ _ _); refine wpAny_bind (nextOf_tuple_item (h1.extBut sa.extBut D.i1z) (t1.extBut sa.extBut D.l1z) hx fun hb b1 sb => wpAny_pure ?_)
  have oB : IsPair hb TO a b := sb.extBut _ _ D.TOi1 (sa.extBut _ _ D.TOz hTO)
  refine wpAny_bind (wpAny_seqItems oB rfl (wpAny_bind (wpAny_updateSeq_pair oB fun hc oC sc => ?_))); replace oC : IsPair hc TO x b := oC
  refine wpAny_bind (wpAny_letGo (wpAny_pure ?_)); refine wpAny_bind (wpAny_bind (wpAny_onRaise ?_))
  (show wpAny _ _ (Builtin.SmallTypes.nextOf (.ref i2) >>= _) _ _ _); refine wpAny_bind (one_item (((h2.but sa.extBut D.i2z).but sb.extBut D.i12.symm).but sc.extBut D.TOi2.symm) (((t2.but sa.extBut D.l2z).but sb.extBut D.l2i1).but sc.extBut D.l2TO) hy fun hd d2 sd => wpAny_pure ?_)
  have oD : IsPair hd TO x b := sd.extBut _ _ D.TOi2 oC
  refine wpAny_bind (wpAny_seqItems oD rfl (wpAny_bind (wpAny_updateSeq_pair oD fun he oE se => ?_))); replace oE : IsPair he TO x y := oE
  refine wpAny_bind (wpAny_letGo (wpAny_pure (wpAny_pure ?_))); refine wpAny_bind (wpAny_seqItems oE rfl (wpAny_bind (wpAny_newTuple ?_)))
  have sz : he.objs.size = s.heap.objs.size := by rw [se.1, sd.1, sc.1, sb.1, sa.1]
  have zE : IsZip he z TI TO .ellipsis := se.extBut _ _ D.TOz.symm (sd.extBut _ _ D.i2z.symm (sc.extBut _ _ D.TOz.symm (sb.extBut _ _ D.i1z.symm za)))
  have kE : ∀ c o, c ≠ z → c ≠ TO → c ≠ i1 → c ≠ i2 → s.heap.get? c = some o → he.get? c = some o := fun c o c1 c2 c3 c4 e => se.extBut _ _ c2 (sd.extBut _ _ c4 (sc.extBut _ _ c2 (sb.extBut _ _ c3 (sa.extBut _ _ c1 e))))
  have e1 : he.IsTupleIter i1 l1 (k1 + 1) := ((b1.extBut sc.extBut D.TOi1.symm).extBut sd.extBut D.i12).extBut se.extBut D.TOi1.symm
  have e2 : SIt bb he i2 l2 (k2 + 1) := d2.but se.extBut D.TOi2.symm
  have zl : z < he.objs.size := Heap.lt_size zE
  (show wpAny _ _ (Builtin.SmallTypes.ownedTupleHandOut (.ref z) (.ref he.objs.size) >>= _) _ _ _); refine wpAny_bind ?_; unfold Builtin.SmallTypes.ownedTupleHandOut
  have zF : IsZip (he.push { cls := .type "tuple", data := .seq #[x, y] }) z TI TO .ellipsis := Heap.get?_push_of_some _ zE
  refine wpAny_bind (wpAny_setField_rec zF (by simp) fun hg zG sg => ?_); replace zG : IsZip hg z TI TO (rawInt he.objs.size) := zG
  refine wpAny_setField_rec zG (by simp) fun hi zI si => ?_; replace zI : IsZip hi z TI TO (rawInt he.objs.size) := zI
  have up : ∀ c o, c ≠ z → he.get? c = some o → hi.get? c = some o := fun c o c1 e => si.extBut _ _ c1 (sg.extBut _ _ c1 (Heap.get?_push_of_some _ e))
  have pI : IsPair hi he.objs.size x y := si.extBut _ _ (Nat.ne_of_gt zl) (sg.extBut _ _ (Nat.ne_of_gt zl) (Heap.get?_push_size _ rfl))
  rw [sz] at zI pI; refine wpAny_pure ⟨_, rfl, ?_⟩; (show Q (.ref he.objs.size) _); rw [sz]
  exact hQ hi zI (up _ _ D.TOz oE) (e1.at fun o e => up _ o D.i1z e) (e2.to fun o e => up _ o D.i2z e) pI fun c o c1 c2 c3 c4 e => up c o c1 (kE c o c1 c2 c3 c4 e)
theorem next_firstO {Q : Option Value → Shared → Prop} (D : ZipApart z TI TO i1 i2 l1 l2) (hz : IsZip s.heap z TI TO .none) (hTI : IsPair s.heap TI (.ref i1) (.ref i2)) (hTO : IsPair s.heap TO a b) (h1 : s.heap.IsTupleIter i1 l1 k1) (h2 : SIt bb s.heap i2 l2 k2) (t1 : s.heap.IsTuple l1 xs) (t2 : SSq bb s.heap l2 ys) (hx : xs[k1]? = some x) (hy : ys[k2]? = some y)
    (hQ : ∀ h', IsZip h' z TI TO (rawInt s.heap.objs.size) → IsPair h' TO x y → h'.IsTupleIter i1 l1 (k1 + 1) → SIt bb h' i2 l2 (k2 + 1) → IsPair h' s.heap.objs.size x y → (∀ c o, c ≠ z → c ≠ TO → c ≠ i1 → c ≠ i2 → s.heap.get? c = some o → h'.get? c = some o) → Q (some (.ref s.heap.objs.size)) { s with heap := h' }) :
    wpAny (model prog w) A (pyNext (.ref z)) Q E s := by
  unfold pyNext
  exact wpAny_bind (wpAny_attempt (wpAny_callSpecial?_slot (name := Str.ofString "__next__") ⟨_, hz, rfl⟩ F.slot_zip_next (wpAny_call_entry F.slot_zip_next ⟨_, hz, rfl⟩ F.entry_zip_next (first_itemO D hz hTI hTO h1 h2 t1 t2 hx hy fun h' a o b c d e => wpAny_pure (hQ h' a o b c d e)) (F.args_zip_next_1 _))))
theorem one_end {it l : Addr} {i : Nat} {items : Array Value} {Q : Value → Shared → Prop} (hh : A.handled = none) (hit : SIt bb s.heap it l i) (hl : SSq bb s.heap l items) (hx : items[i]? = none)
    (hE : ∀ h' e, Heap.ExtBut it s.heap h' → (∃ o, h'.get? e = some o ∧ o.cls = .type "StopIteration") → E (.ref e) { s with heap := h' }) : wpAny (model prog w) A (Builtin.SmallTypes.nextOf (.ref it)) Q E s := by
  cases bb
  · exact nextOf_tuple_end hh (show s.heap.IsTupleIter it l i from hit) (show s.heap.IsTuple l items from hl) hx hE
  · exact wpAny_nextOf_list_end hh (show s.heap.IsListIter it l i from hit) (show s.heap.IsList l items from hl) hx hE
/-- one of the two is at its end -/
theorem end_item {Q : PySem.Fin → Shared → Prop} (hh : A.handled = none) (D : ZipApart z TI TO i1 i2 l1 l2) (hz : IsZip s.heap z TI TO .none) (hTI : IsPair s.heap TI (.ref i1) (.ref i2)) (hTO : IsPair s.heap TO a b) (h1 : s.heap.IsTupleIter i1 l1 k1) (h2 : SIt bb s.heap i2 l2 k2) (t1 : s.heap.IsTuple l1 xs) (t2 : SSq bb s.heap l2 ys) (over : xs[k1]? = none ∨ ys[k2]? = none)
    (hE : ∀ h' e, (∀ c o, c ≠ z → c ≠ TO → c ≠ i1 → c ≠ i2 → s.heap.get? c = some o → h'.get? c = some o) → (∃ o, h'.get? e = some o ∧ o.cls = .type "StopIteration") → E (.ref e) { s with heap := h' }) :
    wpAny (model prog w) A (Builtin.«zip.__next__» ⟨[.ref z], []⟩) Q E s := by
  (show wpAny _ _ (field (.ref z) 2 >>= _) _ _ _); refine wpAny_bind (wpAny_field hz rfl (x := .bool false) rfl ?_)
  (show wpAny _ _ (field (.ref z) 3 >>= _) _ _ _); refine wpAny_bind (wpAny_field hz rfl (x := .ref TI) rfl (wpAny_bind (wpAny_seqItems hTI rfl ?_)))
  (show wpAny _ _ (Builtin.SmallTypes.ownedTupleIsFree (.ref z) >>= _) _ _ _); refine wpAny_bind ?_; unfold Builtin.SmallTypes.ownedTupleIsFree
  refine wpAny_bind (wpAny_field hz rfl (x := .none) rfl (wpAny_pure ?_)); simp only [if_true]
  refine wpAny_bind (wpAny_rule (wpAny_bind (wpAny_field hz rfl (x := .ref TO) rfl ?_)))
  refine wpAny_bind (wpAny_setField_rec hz (by simp) fun ha za sa => ?_); replace za : IsZip ha z TI TO .ellipsis := za
  refine wpAny_bind ?_; simp only [List.zipIdx_cons, List.zipIdx_nil, List.forIn_cons, List.forIn_nil]; refine wpAny_bind (wpAny_bind (wpAny_onRaise ?_))
  (show wpAny _ _ (Builtin.SmallTypes.nextOf (.ref i1) >>= _) _ _ _)
  cases ex : xs[k1]? with
  | none =>
    refine wpAny_bind (nextOf_tuple_end hh (h1.extBut sa.extBut D.i1z) (t1.extBut sa.extBut D.l1z) ex fun hb e sb ⟨oe, ge, ce⟩ => ?_)
    have zb : IsZip hb z TI TO .ellipsis := sb _ _ D.i1z.symm za
    have ne : e ≠ z := fun q => by subst q; rw [zb] at ge; cases ge; simp at ce
    exact wpAny_setField_rec zb (by simp) fun hc _ sc => hE hc e (fun c o c1 _ c3 _ q => sc.extBut _ _ c1 (sb _ _ c3 (sa.extBut _ _ c1 q))) ⟨oe, sc.extBut _ _ ne ge, ce⟩
  | some x =>
    have ey : ys[k2]? = none := over.elim (fun q => by rw [ex] at q; cases q) id
    refine wpAny_bind (nextOf_tuple_item (h1.extBut sa.extBut D.i1z) (t1.extBut sa.extBut D.l1z) ex fun hb b1 sb => wpAny_pure ?_)
    have oB : IsPair hb TO a b := sb.extBut _ _ D.TOi1 (sa.extBut _ _ D.TOz hTO)
    refine wpAny_bind (wpAny_seqItems oB rfl (wpAny_bind (wpAny_updateSeq_pair oB fun hc oC sc => ?_)))
    refine wpAny_bind (wpAny_letGo (wpAny_pure ?_)); refine wpAny_bind (wpAny_bind (wpAny_onRaise ?_))
    (show wpAny _ _ (Builtin.SmallTypes.nextOf (.ref i2) >>= _) _ _ _)
    refine wpAny_bind (one_end hh (((h2.but sa.extBut D.i2z).but sb.extBut D.i12.symm).but sc.extBut D.TOi2.symm) (((t2.but sa.extBut D.l2z).but sb.extBut D.l2i1).but sc.extBut D.l2TO) ey fun hd e sd ⟨oe, ge, ce⟩ => ?_)
    have zd : IsZip hd z TI TO .ellipsis := sd _ _ D.i2z.symm (sc.extBut _ _ D.TOz.symm (sb.extBut _ _ D.i1z.symm za))
    have ne : e ≠ z := fun q => by subst q; rw [zd] at ge; cases ge; simp at ce
    exact wpAny_setField_rec zd (by simp) fun hx _ sx => hE hx e (fun c o c1 c2 c3 c4 q => sx.extBut _ _ c1 (sd _ _ c4 (sc.extBut _ _ c2 (sb.extBut _ _ c3 (sa.extBut _ _ c1 q))))) ⟨oe, sx.extBut _ _ ne ge, ce⟩
theorem next_end {Q : Option Value → Shared → Prop} (hh : A.handled = none) (D : ZipApart z TI TO i1 i2 l1 l2) (hz : IsZip s.heap z TI TO .none) (hTI : IsPair s.heap TI (.ref i1) (.ref i2)) (hTO : IsPair s.heap TO a b) (h1 : s.heap.IsTupleIter i1 l1 k1) (h2 : SIt bb s.heap i2 l2 k2) (t1 : s.heap.IsTuple l1 xs) (t2 : SSq bb s.heap l2 ys) (over : xs[k1]? = none ∨ ys[k2]? = none)
    (q : ∀ h', (∀ c o, c ≠ z → c ≠ TO → c ≠ i1 → c ≠ i2 → s.heap.get? c = some o → h'.get? c = some o) → Q none { s with heap := h' }) : wpAny (model prog w) A (pyNext (.ref z)) Q E s := by
  unfold pyNext
  refine wpAny_bind (wpAny_attempt (wpAny_callSpecial?_slot (name := Str.ofString "__next__") ⟨_, hz, rfl⟩ F.slot_zip_next (wpAny_call_entry F.slot_zip_next ⟨_, hz, rfl⟩ F.entry_zip_next (end_item hh D hz hTI hTO h1 h2 t1 t2 over fun h' e kp ⟨o, ho, hc⟩ => ?_) (F.args_zip_next_1 _))))
  exact wpAny_bind (wpAny_isInstance (T := "StopIteration") (b := true) ⟨o, ho, hc⟩ isSubtype_stop (wpAny_pure (q _ kp)))
end
end ZM
namespace DL
open PySem PySem.Spec PyProof.Rows L2 RZ ZM
def ItzMF (K : PySem.W.Frag) (a b : Addr) : It :=
  ⟨fun i H => ∃ (xs ys : List V) (x y : V), SqT K H a xs ∧ SqL K H b ys ∧ xs[i]? = some x ∧ ys[i]? = some y,
    fun i H v H' => ∃ T x y o, v = .ref T ∧ H T = none ∧ H' = upd H T (.frz o (.tup [x, y])) ∧ o.dict = none ∧ (∀ xs, SqT K H a xs → xs[i]? = some x) ∧ ∀ ys, SqL K H b ys → ys[i]? = some y,
    fun i H => ∃ xs ys : List V, SqT K H a xs ∧ SqL K H b ys ∧ (xs.length ≤ i ∨ ys.length ≤ i)⟩
section
variable {P : Program} {w : World} {K : PySem.W.Frag} {elts : List Expr} {kk : Nat} {tpos : Pos} {a b z TI TO i1 i2 : Addr}
theorem out5 {c : Addr} (n : c ∉ [z, TI, TO, i1, i2]) : c ≠ z ∧ c ≠ TI ∧ c ≠ TO ∧ c ≠ i1 ∧ c ≠ i2 := by simpa using n
theorem turn_zipMF (D : ZipApart z TI TO i1 i2 a b) : Turn P w K (.Tuple elts kk tpos) (ItzMF K a b) [z, TI, TO, i1, i2] z (fun i h => IsZip h z TI TO .none ∧ IsPair h TI (.ref i1) (.ref i2) ∧ (∃ x y, IsPair h TO x y) ∧ h.IsTupleIter i1 a i ∧ h.IsListIter i2 b i) where
  mem := List.mem_cons_self
  obj := fun i h now c cm => by
    obtain ⟨nz, nI, ⟨x, y, nO⟩, ⟨o1, e1, _, d1⟩, ⟨o2, e2, _, d2⟩⟩ := now
    have cm : c = z ∨ c = TI ∨ c = TO ∨ c = i1 ∨ c = i2 := by simpa using cm
    rcases cm with rfl | rfl | rfl | rfl | rfl
    · exact ⟨_, nz, fun v q => nomatch q⟩
    · exact ⟨_, nI, fun v q => nomatch q⟩
    · exact ⟨_, nO, fun v q => nomatch q⟩
    · exact ⟨o1, e1, fun v q => by rw [d1] at q; cases q⟩
    · exact ⟨o2, e2, fun v q => by rw [d2] at q; cases q⟩
  keep := fun i h h' ⟨nz, nI, ⟨x, y, nO⟩, n1, n2⟩ k => ⟨k _ (by simp) _ nz, k _ (by simp) _ nI, ⟨x, y, k _ (by simp) _ nO⟩, n1.at fun o q => k _ (by simp) o q, n2.at fun o q => k _ (by simp) o q⟩
  done := fun X eP eW eK calm i pins s σ H E inv free now over => by
    subst eP eW eK
    obtain ⟨nz, nI, ⟨p0, q0, nO⟩, n1, n2⟩ := now
    obtain ⟨xs, ys, ax, ay, over⟩ := over
    obtain ⟨us, rus, lu, _⟩ := inv.tuple ax
    obtain ⟨ws, rws, lw, _⟩ := inv.list ay
    have e1 := rus.length
    have e2 := rws.length
    refine next_end (bb := true) (inv.ok.hd calm) D nz nI nO n1 n2 lu (show s.heap.IsList b ws.toArray from lw.isList) ?_ fun h' kp => ⟨rfl, inv.turnedL (t' := s.toks) (ch := [z, TI, TO, i1, i2]) (fun c o n q => kp c o (out5 n).1 (out5 n).2.2.1 (out5 n).2.2.2.1 (out5 n).2.2.2.2 q) free⟩
    rcases over with l | l
    · exact .inl (by rw [← Array.getElem?_toList]; exact List.getElem?_eq_none (by show us.length ≤ i; omega))
    · exact .inr (by rw [← Array.getElem?_toList]; exact List.getElem?_eq_none (by show ws.length ≤ i; omega))
  self := fun A i s Q E now h => wpAny_pyIter_zip now.1 h
  item := fun X eP eW eK calm i pins s σ H E inv free now go => by
    subst eP eW eK
    have now0 := now
    obtain ⟨nz, nI, ⟨p0, q0, nO⟩, n1, n2⟩ := now
    obtain ⟨xs, ys, x, y, ax, ay, gx, gy⟩ := go
    obtain ⟨us, rus, lu, _⟩ := inv.tuple ax
    obtain ⟨ws, rws, lw, _⟩ := inv.list ay
    obtain ⟨u, eu, ru⟩ := rus.get gx
    obtain ⟨v, ev, rv⟩ := rws.get gy
    have zl : z < s.heap.objs.size := Heap.lt_size nz
    refine next_firstO (bb := true) D nz nI nO n1 n2 lu (show s.heap.IsList b ws.toArray from lw.isList) (x := u) (y := v) (by simpa using eu) (by simpa using ev) fun hA zA OA m1 m2 tA kA => ⟨_, rfl, wpAny_letOwnedTupleGo_zip (s := { s with heap := hA }) zA fun hB zB kB => ?_⟩
    have m2 : hA.IsListIter i2 b (i + 1) := m2
    have tB : hB.get? s.heap.objs.size = some (pairO u v) := (kB.2 _ (Nat.ne_of_gt zl)).trans tA
    have inB : Inv X pins σ (upd H s.heap.objs.size (.frz (pairO u v) (.tup [x, y]))) { s with heap := hB } :=
      inv.turnedNew (t' := s.toks) (ch := [z, TI, TO, i1, i2]) (fun c o n q => (kB.2 c (out5 n).1).trans (kA c o (out5 n).1 (out5 n).2.2.1 (out5 n).2.2.2.1 (out5 n).2.2.2.2 q)) free (Nat.le_refl _) (pair_ok tB ru rv)
    refine ⟨.ref s.heap.objs.size, _, inB, rfl, ⟨_, x, y, _, rfl, inv.hok.fresh (Nat.le_refl _), rfl, rfl, fun l hl => by rw [inv.tuple_inj hl ax]; exact gx, fun l hl => by rw [inv.list_inj hl ay]; exact gy⟩, ⟨zB, (kB.2 _ D.TIz).trans (kA _ _ D.TIz D.TITO D.TIi1 D.TIi2 nI), ⟨u, v, (kB.2 _ D.TOz).trans OA⟩, m1.at fun o q => (kB.2 _ D.i1z).trans q, m2.at fun o q => (kB.2 _ D.i2z).trans q⟩, fun c cm => ?_⟩
    have nc := (free c cm).1
    have lt : c ≠ s.heap.objs.size := fun e => by
      have cm : c = z ∨ c = TI ∨ c = TO ∨ c = i1 ∨ c = i2 := by simpa using cm
      have l : c < s.heap.objs.size := by
        rcases cm with rfl | rfl | rfl | rfl | rfl
        · exact zl
        · exact Heap.lt_size nI
        · exact Heap.lt_size nO
        · obtain ⟨_, g, _⟩ := n1; exact Heap.lt_size g
        · obtain ⟨_, g, _⟩ := n2; exact Heap.lt_size g
      rw [e] at l
      exact Nat.lt_irrefl _ l
    rw [upd_ne lt]
    exact nc
end
def iZipM (K : PySem.W.Frag) (ta : TA) : TI := fun σ H R => ta σ H fun vs H1 => ∃ a b xs ys, vs = [.ref a, .ref b] ∧ SqT K H1 a xs ∧ SqL K H1 b ys ∧ R (ItzMF K a b) H1
theorem pi_zipM {X : Cx} {e e2 : Expr} {ta : TA} {p pos tpos : Pos} {elts : List Expr} {kk : Nat} (isG : Gl X "zip") (noM : X.mg "zip" = none) (args : PA X [e, e2] ta)
    (st : starEach [e, e2] X.env = (false, eval e X.env) :: starEach [e2] X.env := by rfl) (pl : (backTo pos (starEach [e2] X.env)).any (·.1) = false := by rfl) :
    PI X (.Tuple elts kk tpos) (.Call (.Name "zip" p) [e, e2] [] pos) (iZipM X.K ta) := by
  refine ⟨fun pins s σ H R inv h => ?_⟩
  refine Call_ (ld_blt inv isG noM PyProof.Rows.boot_zip (PyProof.Rows.callWith_type1 (thn (args.run pos pins s σ H _ inv h) fun us t ⟨vs, HA, jnv, rel, q⟩ => ?_) st pl))
  obtain ⟨a, b, xs, ys, ev, sx, sy, q⟩ := q
  subst ev
  have new5 : ∀ c, c ∈ [t.heap.objs.size + 4, t.heap.objs.size + 2, t.heap.objs.size + 3, t.heap.objs.size, t.heap.objs.size + 1] → FpOk X pins HA c := fun c cm => by
    have le : t.heap.objs.size ≤ c := by
      simp only [List.mem_cons, List.not_mem_nil, or_false] at cm
      rcases cm with rfl | rfl | rfl | rfl | rfl
      · exact Nat.le_add_right t.heap.objs.size 4
      · exact Nat.le_add_right t.heap.objs.size 2
      · exact Nat.le_add_right t.heap.objs.size 3
      · exact Nat.le_refl t.heap.objs.size
      · exact Nat.le_add_right t.heap.objs.size 1
    exact jnv.fpOk le (jnv.hok.fresh le)
  cases rel with
  | cons r1 rr =>
  cases rr with
  | cons r2 rr =>
    cases rr
    cases r1
    cases r2
    obtain ⟨lx, _, tx, _⟩ := jnv.tuple sx
    obtain ⟨ws, _, ly, _⟩ := jnv.list sy
    obtain ⟨ox, hox, _⟩ := id tx
    refine call_zipM (bb := true) (show t.heap.IsTuple a lx.toArray from tx) (show t.heap.IsList b ws.toArray from ly.isList) fun hB nz nI nO n1 n2 _ kB => wpAny_pyIter_zip nz ?_
    exact ⟨t.heap.objs.size + 4, [t.heap.objs.size + 4, t.heap.objs.size + 2, t.heap.objs.size + 3, t.heap.objs.size, t.heap.objs.size + 1], _, _, HA, rfl, jnv.kept (t' := t.toks) kB, turn_zipMF (PySem.W.ktu_apart t.heap.objs.size a b (Heap.lt_size hox) ly.lt), ⟨nz, nI, ⟨_, _, nO⟩, n1, n2⟩, new5, q⟩
section
variable {K : PySem.W.Frag} {N : Addr → Prop} {H : Hp} {a b : Addr} {ds es : List D}
theorem src_zipMF (h : In K N H (.ref a) (.tuple ds)) (g : In K N H (.ref b) (.list es)) : Src K N H (ItzMF K a b) (zipD ds es) where
  go := fun i N' HB p dom hi => by
    rw [zip_len] at hi
    obtain ⟨a', xs, ea, ha, h1⟩ := (p _ _ h).tuple_inv
    cases ea
    obtain ⟨b', ys, eb, hb, g1⟩ := (p _ _ g).list_inv
    cases eb
    have lx : i < xs.length := by rw [h1.length]; omega
    have ly : i < ys.length := by rw [g1.length]; omega
    refine ⟨⟨xs, ys, xs[i], ys[i], ha, .inl (.inl hb), List.getElem?_eq_getElem lx, List.getElem?_eq_getElem ly⟩, fun v H' ⟨T, x, y, o, ev, hT, eH, od, hx, hy⟩ => ?_⟩
    subst ev eH
    obtain ⟨d, ed, hd⟩ := h1.get (hx _ ha)
    obtain ⟨e, ee, he⟩ := g1.get (hy _ (.inl (.inl hb)))
    exact ⟨same_new hT, _, zip_at ds es i d e ed ee, pair2_in hT dom od hd he⟩
  stop := fun N' HB p => by
    obtain ⟨a', xs, ea, ha, h1⟩ := (p _ _ h).tuple_inv
    cases ea
    obtain ⟨b', ys, eb, hb, g1⟩ := (p _ _ g).list_inv
    cases eb
    refine ⟨xs, ys, ha, .inl (.inl hb), ?_⟩
    rw [h1.length, g1.length, zip_len]
    omega
end
def zipOfM : List D → Option (List D)
  | [.tuple a, .list b] => some (zipD a b)
  | _ => none
def sForZM (r : FL) (tgt : FG) (body : FS) : FS := fun env => (r env).bind fun ds => match zipOfM ds with
  | some zs => forD tgt body zs env
  | none => .fail
def eCompZM (r : FL) (tgt : FG) (t : FT) (fe : FE) (vs : List Nat) : FE := fun env => (r env).bind fun ds => match zipOfM ds with
  | some zs => endComp tgt t fe (wipeE env vs) zs
  | none => .fail
theorem zipOfM_inv {K : PySem.W.Frag} {N : Addr → Prop} {H : Hp} {vs : List V} {ds zs : List D} (e : zipOfM ds = some zs) (h : InAll K N H vs ds) : ∃ a b xs ys, vs = [.ref a, .ref b] ∧ SqT K H a xs ∧ SqL K H b ys ∧ Src K N H (ItzMF K a b) zs := by
  unfold zipOfM at e
  split at e
  · cases e
    match vs, h with
    | [u, v], .cons h1 (.cons h2 .nil) =>
      have i1 := h1
      have i2 := h2
      obtain ⟨a, xs, rfl, ha, _⟩ := In.tuple_inv h1
      obtain ⟨b, ys, rfl, hb, _⟩ := In.list_inv h2
      exact ⟨a, b, xs, ys, rfl, ha, .inl (.inl hb), src_zipMF i1 i2⟩
  · cases e
section
variable {X : Cx} {k : Kd} {sTt : Stmt} {e : Expr}
theorem xs_forZM {r : FL} {tgt : FG} {body : FS} (h : PS X sTt (tFor (iZipM X.K (tL X.K r)) (tG X.K tgt) (tS X.K k body))) : XS X k sTt (sForZM r tgt body) :=
  weakS h fun D' σ H ⟨ω, N0, N, E, b, env, r, n0, e0, q⟩ => by
  refine ⟨ω, N, E, b, env, r, Tr.All_mono ((Tr.All_bind _ _ _ _).mp q) fun ds c qa vs HA k1 o1 i1 => ?_⟩
  have rA := r.move k1 o1
  have p1 := Pres.keep (K := X.K) r.om k1
  cases ez : zipOfM ds with
  | none => simp only [ez] at qa; exact qa.elim
  | some zs =>
    simp only [ez] at qa
    obtain ⟨x, y, xs, ys, ev, h1, h2, S⟩ := zipOfM_inv ez i1
    exact ⟨x, y, xs, ys, ev, h1, h2, walk_src rA n0 e0 p1 S qa⟩
theorem rd_compZM {r : FL} {fe : FE} {g : TG} {tgt : FG} {tt : TT} {ft : FT} {vs : List Nat} (hg : OwnTg X.K g tgt vs) (htt : ∀ σ H Q, tY X.K ft σ H Q → tt σ H Q) : ∀ σ H Q, tX X.K .o (eCompZM r tgt ft fe vs) σ H Q → (tLc (iZipM X.K (tL X.K r)) g tt (tX X.K .v fe) vs) σ H Q :=
  fun σ H Q ⟨ω, N, E, b, env, rr, q⟩ => by
  refine ⟨ω, N, E, b, env, rr, Tr.All_mono ((Tr.All_bind _ _ _ _).mp q) fun ds c qa us H1 k1 o1 i1 => ?_⟩
  have r1 := rr.move k1 o1
  cases ez : zipOfM ds with
  | none => simp only [ez] at qa; exact qa.elim
  | some zs =>
    simp only [ez] at qa
    obtain ⟨x, y, xs, ys, ev, h1, h2, S⟩ := zipOfM_inv ez i1
    exact ⟨x, y, xs, ys, ev, h1, h2, comp_core2 (g := g) (tt := tt) (ds := zs) r1 k1 (fun i H2 N' _ p dom hi => S.go i N' H2 p dom hi) (fun H2 k2 => S.stop N H2 (Pres.keep r1.om k2)) hg htt qa⟩
theorem xe_compZM {r : FL} {fe : FE} {g : TG} {tgt : FG} {tt : TT} {ft : FT} {vs : List Nat} (hg : OwnTg X.K g tgt vs) (htt : ∀ σ H Q, tY X.K ft σ H Q → tt σ H Q) (h : PE X e (tLc (iZipM X.K (tL X.K r)) g tt (tX X.K .v fe) vs)) : XE X .o e (eCompZM r tgt ft fe vs) := weak h (rd_compZM hg htt)
end
end DL
end
section
set_option linter.all false
set_option maxRecDepth 100000
set_option maxHeartbeats 1000000
namespace T56
open PySem PySem.Spec PyProof.Rows L2 DL
def topS (i : Nat) : Stmt := PySem.Challenge.pw_hookedcords_k56_whole_fillings_numbered.main.body.getD i (.Pass ⟨0, 0, 0, 0⟩)
def d_WORDS : D := (.tuple [(.str "cut"), (.str "hook"), (.str "join"), (.str "swap")])
structure Bt (K : PySem.W.Frag) (mg : Str → Option Value) : Prop where
  b_all : mg "all" = none
  b_any : mg "any" = none
  b_bool : mg "bool" = none
  b_dict : mg "dict" = none
  b_divmod : mg "divmod" = none
  b_enumerate : mg "enumerate" = none
  b_int : mg "int" = none
  b_isinstance : mg "isinstance" = none
  b_len : mg "len" = none
  b_list : mg "list" = none
  b_max : mg "max" = none
  b_min : mg "min" = none
  b_range : mg "range" = none
  b_repr : mg "repr" = none
  b_set : mg "set" = none
  b_sorted : mg "sorted" = none
  b_str : mg "str" = none
  b_sum : mg "sum" = none
  b_tuple : mg "tuple" = none
  b_type : mg "type" = none
  b_zip : mg "zip" = none
  c_MOST_CORDS : ∃ t, mg "MOST_CORDS" = some (.int 5 t)
  c_MOST_DEEDS : ∃ t, mg "MOST_DEEDS" = some (.int 40 t)
  c_MOST_ITEMS : ∃ t, mg "MOST_ITEMS" = some (.int 12 t)
  c_WORDS : Glob K mg "WORDS" d_WORDS
section
variable {P : Program} {w : World} {K : PySem.W.Frag} {mg : Str → Option Value} {base : Heap}
abbrev s_is_between : Stmt := topS 9
abbrev N_is_between : List Str := ["value", "least", "most"]
theorem sc_is_between : FnScope N_is_between ["value", "least", "most"] (defScope s_is_between) := ⟨rfl, rfl, rfl, by decide +kernel, rfl, by decide +kernel, by decide +kernel⟩
def m_is_between : List Slot → Tr D := fnF 3 .v (sRet (vAnd (eTy false "int" (eVar 0)) (eChain dLe dLe (eVar 1) (eVar 0) (eVar 2))))
theorem ok_is_between {f : Addr} {fd : FuncData} (F : Fun K "is_between" "is_between" s_is_between f fd) (B : Bt K mg)  : FnG P w K mg base 1 f fd ["value", "least", "most"] (spD K .v 3 m_is_between) :=
  fn_ok F sc_is_between fun cdv A outer s H E hr hgd => (have hu := hr.units; have hu1 := hu_of hr; have nd := sc_is_between.nd; (xss_one (xs_ret (by decide) (xe_and (xe_isTy (pe_cmpR op_isTyB (pe_callTy call_type1 (by rfl) B.b_type (by decide +kernel) (pa_cons (xe_vb (xe_var (pv 0))) pa_nil)) (pe_bltn (v := .ty "int") (by rfl) B.b_int (by decide +kernel) rfl) (nomark _))) (xe_one (xe_chain o_le o_le (xe_vb (xe_var (pv 1))) (xe_vb (xe_var (pv 0))) (xe_vb (xe_var (pv 2)))))))))
abbrev s_need_number : Stmt := topS 10
abbrev N_need_number : List Str := ["value", "least", "most"]
theorem sc_need_number : FnScope N_need_number ["value", "least", "most"] (defScope s_need_number) := ⟨rfl, rfl, rfl, by decide +kernel, rfl, by decide +kernel, by decide +kernel⟩
def m_need_number : List Slot → Tr D := fnF 3 .v (sIf (bNot (tt (eCall m_is_between (aVal (eVar 0) (aVal (eVar 1) (aVal (eVar 2) aNil)))))) (fun _ => .fail) sNext)
theorem ok_need_number {f : Addr} {fd : FuncData} (F : Fun K "need_number" "need_number" s_need_number f fd) (B : Bt K mg) (C_is_between : Cal P w K mg base "is_between" 1 ["value", "least", "most"] (spD K .v 3 m_is_between)) : FnG P w K mg base 2 f fd ["value", "least", "most"] (spD K .v 3 m_need_number) :=
  fn_ok F sc_need_number fun cdv A outer s H E hr hgd => (have hu := hr.units; have hu1 := hu_of hr; have nd := sc_need_number.nd; (xss_one (xs_if (xt_not (xt_val (xe_vb (xe_callC C_is_between (hr.mono (by omega)) hgd (by rfl) (xa_val (xe_var (pv 0)) (xa_val (xe_var (pv 1)) (xa_val (xe_var (pv 2)) xa_nil))) (argN_val (argN_val (argN_val argN_nil))))))) (xss_one xs_never) xss_nil)))
abbrev s_need_cords : Stmt := topS 11
abbrev N_need_cords : List Str := ["cords"]
theorem sc_need_cords : FnScope N_need_cords ["cords"] (defScope s_need_cords) := ⟨rfl, rfl, rfl, by decide +kernel, rfl, by decide +kernel, by decide +kernel⟩
def m_need_cords : List Slot → Tr D := fnF 1 .v (sIf (bNot (tt (eCall m_is_between (aVal (eVar 0) (aVal (eC (.int 1)) (aVal (eC (.int 5)) aNil)))))) (fun _ => .fail) sNext)
theorem ok_need_cords {f : Addr} {fd : FuncData} (F : Fun K "need_cords" "need_cords" s_need_cords f fd) (B : Bt K mg) (C_is_between : Cal P w K mg base "is_between" 1 ["value", "least", "most"] (spD K .v 3 m_is_between)) : FnG P w K mg base 2 f fd ["cords"] (spD K .v 1 m_need_cords) :=
  fn_ok F sc_need_cords fun cdv A outer s H E hr hgd => (have hu := hr.units; have hu1 := hu_of hr; have nd := sc_need_cords.nd; (xss_one (xs_if (xt_not (xt_val (xe_vb (xe_callC C_is_between (hr.mono (by omega)) hgd (by rfl) (xa_val (xe_var (pv 0)) (xa_val xe_int (xa_val (xe_globI (by rfl) B.c_MOST_CORDS) xa_nil))) (argN_val (argN_val (argN_val argN_nil))))))) (xss_one xs_never) xss_nil)))
abbrev s_places_for : Stmt := topS 12
abbrev N_places_for : List Str := ["cords", "word"]
theorem sc_places_for : FnScope N_places_for ["cords", "word"] (defScope s_places_for) := ⟨rfl, rfl, rfl, by decide +kernel, rfl, by decide +kernel, by decide +kernel⟩
def m_places_for : List Slot → Tr D := fnF 2 .v (sSeq (sIf (tt (e2 dEq (eVar 1) (eC (.str "cut")))) (sRet (eVar 0)) sNext) (sRet (e2 dSub (eVar 0) (eC (.int 1)))))
theorem ok_places_for {f : Addr} {fd : FuncData} (F : Fun K "places_for" "places_for" s_places_for f fd) (B : Bt K mg)  : FnG P w K mg base 1 f fd ["cords", "word"] (spD K .v 2 m_places_for) :=
  fn_ok F sc_places_for fun cdv A outer s H E hr hgd => (have hu := hr.units; have hu1 := hu_of hr; have nd := sc_places_for.nd; (xss_cons (xs_if (xt_cmp (o_eq hu) (xe_vb (xe_var (pv 1))) (xe_vb xe_str) (nomark _)) (xss_one (xs_ret (by decide) (xe_var (pv 0)))) xss_nil) (xss_one (xs_ret (by decide) (xe_op o_sub (xe_vb (xe_var (pv 0))) (xe_vb xe_int))))))
abbrev s_is_deed : Stmt := topS 13
abbrev N_is_deed : List Str := ["cords", "value", "word", "place"]
theorem sc_is_deed : FnScope N_is_deed ["cords", "value"] (defScope s_is_deed) := ⟨rfl, rfl, rfl, by decide +kernel, rfl, by decide +kernel, by decide +kernel⟩
def m_is_deed : List Slot → Tr D := fnF 4 .v (sSeq (sIf (bOr (fTy true "tuple" (eVar 1)) (tt (e2 dNe (eCB dLenA (lCons (eVar 1) lNil)) (eC (.int 2))))) (sRet (eC (.bool false))) sNext) (sSeq (sAsg (eVar 1) (gT 2 (gsCons (gN 2) (gsCons (gN 3) gsNil)))) (sSeq (sIf (bOr (fTy true "str" (eVar 2)) (tt (e2 (dIn true) (eVar 2) (eC d_WORDS)))) (sRet (eC (.bool false))) sNext) (sRet (eCall m_is_between (aVal (eVar 3) (aVal (eC (.int 0)) (aVal (e2 dSub (eCall m_places_for (aVal (eVar 0) (aVal (eVar 2) aNil))) (eC (.int 1))) aNil))))))))
theorem ok_is_deed {f : Addr} {fd : FuncData} (F : Fun K "is_deed" "is_deed" s_is_deed f fd) (B : Bt K mg) (C_places_for : Cal P w K mg base "places_for" 1 ["cords", "word"] (spD K .v 2 m_places_for)) (C_is_between : Cal P w K mg base "is_between" 1 ["value", "least", "most"] (spD K .v 3 m_is_between)) : FnG P w K mg base 2 f fd ["cords", "value"] (spD K .v 2 m_is_deed) :=
  fn_ok F sc_is_deed fun cdv A outer s H E hr hgd => (have hu := hr.units; have hu1 := hu_of hr; have nd := sc_is_deed.nd; (xss_cons (xs_if (PW.pt (xw_or (xt_isNotTy (pt_cmpR op_notTyB (pe_callTy call_type1 (by rfl) B.b_type (by decide +kernel) (pa_cons (xe_vb (xe_var (pv 1))) pa_nil)) (pe_bltn (v := .ty "tuple") (by rfl) B.b_tuple (by decide +kernel) rfl) (nomark _))) (xw_or1 (xt_cmp (o_ne hu) (xe_vb (xe_callB c_lenA (by rfl) B.b_len (by decide +kernel) (xlb_cons (xe_vb (xe_var (pv 1))) xlb_nil))) (xe_vb xe_int) (nomark _))))) (xss_one (xs_ret (by decide) xe_bl)) xss_nil) (xss_cons (xs_asg (ps_asg (xe_var (pv 1)) (xg_tup rfl (xgs_cons (xg_name (pg_name (i := 2) nd rfl (Or.inl rfl))) (xgs_cons (xg_name (pg_name (i := 3) nd rfl (Or.inl rfl))) xgs_nil))))) (xss_cons (xs_if (PW.pt (xw_or (xt_isNotTy (pt_cmpR op_notTyB (pe_callTy call_type1 (by rfl) B.b_type (by decide +kernel) (pa_cons (xe_vb (xe_var (pv 2))) pa_nil)) (pe_bltn (v := .ty "str") (by rfl) B.b_str (by decide +kernel) rfl) (nomark _))) (xw_or1 (xt_cmp o_notin (xe_vb (xe_var (pv 2))) (xe_vb (xe_globD (by rfl) B.c_WORDS)) (by with_unfolding_all rfl))))) (xss_one (xs_ret (by decide) xe_bl)) xss_nil) (xss_one (xs_ret (by decide) (xe_callC C_is_between (hr.mono (by omega)) hgd (by rfl) (xa_val (xe_var (pv 3)) (xa_val xe_int (xa_val (xe_op o_sub (xe_vb (xe_callC C_places_for (hr.mono (by omega)) hgd (by rfl) (xa_val (xe_var (pv 0)) (xa_val (xe_var (pv 2)) xa_nil)) (argN_val (argN_val argN_nil)))) (xe_vb xe_int)) xa_nil))) (argN_val (argN_val (argN_val argN_nil))))))))))
abbrev s_is_tuple_of_at_most : Stmt := topS 14
abbrev N_is_tuple_of_at_most : List Str := ["value", "most"]
theorem sc_is_tuple_of_at_most : FnScope N_is_tuple_of_at_most ["value", "most"] (defScope s_is_tuple_of_at_most) := ⟨rfl, rfl, rfl, by decide +kernel, rfl, by decide +kernel, by decide +kernel⟩
def m_is_tuple_of_at_most : List Slot → Tr D := fnF 2 .v (sRet (vAnd (eTy false "tuple" (eVar 0)) (e2 dLe (eCB dLenA (lCons (eVar 0) lNil)) (eVar 1))))
theorem ok_is_tuple_of_at_most {f : Addr} {fd : FuncData} (F : Fun K "is_tuple_of_at_most" "is_tuple_of_at_most" s_is_tuple_of_at_most f fd) (B : Bt K mg)  : FnG P w K mg base 1 f fd ["value", "most"] (spD K .v 2 m_is_tuple_of_at_most) :=
  fn_ok F sc_is_tuple_of_at_most fun cdv A outer s H E hr hgd => (have hu := hr.units; have hu1 := hu_of hr; have nd := sc_is_tuple_of_at_most.nd; (xss_one (xs_ret (by decide) (xe_and (xe_isTy (pe_cmpR op_isTyB (pe_callTy call_type1 (by rfl) B.b_type (by decide +kernel) (pa_cons (xe_vb (xe_var (pv 0))) pa_nil)) (pe_bltn (v := .ty "tuple") (by rfl) B.b_tuple (by decide +kernel) rfl) (nomark _))) (xe_one (xe_cmp o_le (xe_vb (xe_callB c_lenA (by rfl) B.b_len (by decide +kernel) (xlb_cons (xe_vb (xe_var (pv 0))) xlb_nil))) (xe_vb (xe_var (pv 1))) (nomark _)))))))
abbrev s_is_ascending : Stmt := topS 15
abbrev N_is_ascending : List Str := ["things", "near", "far"]
theorem sc_is_ascending : FnScope N_is_ascending ["things"] (defScope s_is_ascending) := ⟨rfl, rfl, rfl, by decide +kernel, rfl, by decide +kernel, by decide +kernel⟩
def m_is_ascending : List Slot → Tr D := fnF 3 .v (sRet (eCB dAll (lCons (eCompZF (lCons (eVar 0) (lCons (eSl dSlA (eVar 0) (oSome (eC (.int 1))) oNone) lNil)) (gT 2 (gsCons (gN 1) (gsCons (gN 2) gsNil))) fYes (e2 dLtK (eVar 1) (eVar 2)) [1, 2]) lNil)))
theorem ok_is_ascending {f : Addr} {fd : FuncData} (F : Fun K "is_ascending" "is_ascending" s_is_ascending f fd) (B : Bt K mg)  : FnG P w K mg base 1 f fd ["things"] (spD K .v 1 m_is_ascending) :=
  fn_ok F sc_is_ascending fun cdv A outer s H E hr hgd => (have hu := hr.units; have hu1 := hu_of hr; have nd := sc_is_ascending.nd; (xss_one (xs_ret (by decide) (xe_callB (c_all rfl) (by rfl) B.b_all (by decide +kernel) (xlb_cons (xe_vb (xe_ov (xe_compZF (own_two 1 2) yes_ok (pe_lc (own := [("near", 1), ("far", 2)]) (g := (gTup _ 2 (gCons (gName 1) (gCons (gName 2) gNil)))) rfl nd (pi_zipF (by rfl) B.b_zip (xl_cons (xe_var (pv 0)) (xl_cons (xe_slice x_slA (xe_vb (xe_var (pv 0))) (xo_some (xe_vb xe_int)) xo_none) xl_nil))) (blkOk_by (own := [("near", 1), ("far", 2)]) (N := N_is_ascending) (sc := defScope s_is_ascending) (by decide +kernel)) (fun _ _ _ _ _ => pg_tup rfl (pgs_cons (pg_name (i := 1) nd rfl (Or.inl rfl)) (pgs_cons (pg_name (i := 2) nd rfl (Or.inl rfl)) pgs_nil))) (fun _ _ _ _ _ => pts_nil) (fun _ _ _ _ _ => (xe_cmp (o_ltK hu) (xe_vb (xe_var (pv 1))) (xe_vb (xe_var (pv 2))) (nomark _))))))) xlb_nil)))))
abbrev s_need_row : Stmt := topS 16
abbrev N_need_row : List Str := ["cords", "row", "number", "deed"]
theorem sc_need_row : FnScope N_need_row ["cords", "row"] (defScope s_need_row) := ⟨rfl, rfl, rfl, by decide +kernel, rfl, by decide +kernel, by decide +kernel⟩
def m_need_row : List Slot → Tr D := fnF 4 .v (sSeq (sIf (bNot (tt (eCall m_is_tuple_of_at_most (aVal (eVar 1) (aVal (eC (.int 40)) aNil))))) (fun _ => .fail) sNext) (sForE (lCons (eVar 1) lNil) (gT 2 (gsCons (gN 2) (gsCons (gN 3) gsNil))) (sIf (bNot (tt (eCall m_is_deed (aVal (eVar 0) (aVal (eVar 3) aNil))))) (fun _ => .fail) sNext)))
theorem ok_need_row {f : Addr} {fd : FuncData} (F : Fun K "need_row" "need_row" s_need_row f fd) (B : Bt K mg) (C_is_tuple_of_at_most : Cal P w K mg base "is_tuple_of_at_most" 1 ["value", "most"] (spD K .v 2 m_is_tuple_of_at_most)) (C_is_deed : Cal P w K mg base "is_deed" 2 ["cords", "value"] (spD K .v 2 m_is_deed)) : FnG P w K mg base 3 f fd ["cords", "row"] (spD K .v 2 m_need_row) :=
  fn_ok F sc_need_row fun cdv A outer s H E hr hgd => (have hu := hr.units; have hu1 := hu_of hr; have nd := sc_need_row.nd; (xss_cons (xs_if (xt_not (xt_val (xe_vb (xe_callC C_is_tuple_of_at_most (hr.mono (by omega)) hgd (by rfl) (xa_val (xe_var (pv 1)) (xa_val (xe_globI (by rfl) B.c_MOST_DEEDS) xa_nil)) (argN_val (argN_val argN_nil)))))) (xss_one xs_never) xss_nil) (xss_one (xs_forE (ps_for PassesOwn.never rfl (pi_enumT (by rfl) B.b_enumerate (xl_cons (xe_var (pv 1)) xl_nil)) (xg_tup rfl (xgs_cons (xg_name (pg_name (i := 2) nd rfl (Or.inl rfl))) (xgs_cons (xg_name (pg_name (i := 3) nd rfl (Or.inl rfl))) xgs_nil))) (xss_one (xs_if (xt_not (xt_val (xe_vb (xe_callC C_is_deed (hr.mono (by omega)) hgd (by rfl) (xa_val (xe_var (pv 0)) (xa_val (xe_var (pv 3)) xa_nil)) (argN_val (argN_val argN_nil)))))) (xss_one xs_never) xss_nil)))))))
abbrev s_deeds_with : Stmt := topS 18
abbrev N_deeds_with : List Str := ["cords", "words", "word", "place"]
theorem sc_deeds_with : FnScope N_deeds_with ["cords", "words"] (defScope s_deeds_with) := ⟨rfl, rfl, rfl, by decide +kernel, rfl, by decide +kernel, by decide +kernel⟩
def m_deeds_with : List Slot → Tr D := fnF 4 .v (sRet (eCB dTuple (lCons (eComp2 (srcS (eVar 1)) (gN 2) fYes (srcR (lCons (eCall m_places_for (aVal (eVar 0) (aVal (eVar 2) aNil))) lNil)) (gN 3) fYes (eTup (lCons (eVar 2) (lCons (eVar 3) lNil))) [2, 3] [3]) lNil)))
theorem ok_deeds_with {f : Addr} {fd : FuncData} (F : Fun K "deeds_with" "deeds_with" s_deeds_with f fd) (B : Bt K mg) (C_places_for : Cal P w K mg base "places_for" 1 ["cords", "word"] (spD K .v 2 m_places_for)) : FnG P w K mg base 2 f fd ["cords", "words"] (spD K .v 2 m_deeds_with) :=
  fn_ok F sc_deeds_with fun cdv A outer s H E hr hgd => (have hu := hr.units; have hu1 := hu_of hr; have nd := sc_deeds_with.nd; (xss_one (xs_ret (by decide) (xe_callT c_tuple (by rfl) B.b_tuple (by decide +kernel) (xlb_cons (xe_vb (xe_ov (xe_comp2 srcS_ok (srcR1_ok (lenN_cons lenN_nil)) (own2 (own_name 2) (by decide)) (tgown_name 2) yes_ok (own_name 3) yes_ok (pe_lc2 (own := [("word", 2), ("place", 3)]) (g := (gName 2)) (g1 := (gName 3)) rfl nd (pi_seq (xe_var (pv 1))) (blkOk_by (own := [("word", 2), ("place", 3)]) (N := N_deeds_with) (sc := defScope s_deeds_with) (by decide +kernel)) (vs1 := [3]) (by decide) (fun _ _ _ _ _ => pg_name (i := 2) nd rfl (Or.inl rfl)) (fun _ _ _ _ _ => pts_nil) (fun _ _ _ _ _ => (pi_range1 (by rfl) B.b_range (xlb_cons (xe_vb (xe_callC C_places_for (hr.mono (by omega)) hgd (by rfl) (xa_val (xe_var (pv 0)) (xa_val (xe_var (pv 2)) xa_nil)) (argN_val (argN_val argN_nil)))) xlb_nil))) (fun _ _ _ _ _ => pg_name (i := 3) nd rfl (Or.inl rfl)) (fun _ _ _ _ _ => pts_nil) (fun _ _ _ _ _ => (xe_tup (xl_cons (xe_var (pv 2)) (xl_cons (xe_var (pv 3)) xl_nil)))))))) xlb_nil)))))
abbrev s_is_lot : Stmt := topS 21
abbrev N_is_lot : List Str := ["cords", "value", "deed"]
theorem sc_is_lot : FnScope N_is_lot ["cords", "value"] (defScope s_is_lot) := ⟨rfl, rfl, rfl, by decide +kernel, rfl, by decide +kernel, by decide +kernel⟩
def m_is_lot : List Slot → Tr D := fnF 3 .v (sSeq (sIf (bOr (fTy true "tuple" (eVar 1)) (tt (e2 dEq (eCB dLenA (lCons (eVar 1) lNil)) (eC (.int 0))))) (sRet (eC (.bool false))) sNext) (sRet (vAnd (eCB dAll (lCons (eCompS (eVar 1) (gN 2) fYes (eCall m_is_deed (aVal (eVar 0) (aVal (eVar 2) aNil))) [2]) lNil)) (eCall m_is_ascending (aVal (eVar 1) aNil)))))
theorem ok_is_lot {f : Addr} {fd : FuncData} (F : Fun K "is_lot" "is_lot" s_is_lot f fd) (B : Bt K mg) (C_is_deed : Cal P w K mg base "is_deed" 2 ["cords", "value"] (spD K .v 2 m_is_deed)) (C_is_ascending : Cal P w K mg base "is_ascending" 1 ["things"] (spD K .v 1 m_is_ascending)) : FnG P w K mg base 3 f fd ["cords", "value"] (spD K .v 2 m_is_lot) :=
  fn_ok F sc_is_lot fun cdv A outer s H E hr hgd => (have hu := hr.units; have hu1 := hu_of hr; have nd := sc_is_lot.nd; (xss_cons (xs_if (PW.pt (xw_or (xt_isNotTy (pt_cmpR op_notTyB (pe_callTy call_type1 (by rfl) B.b_type (by decide +kernel) (pa_cons (xe_vb (xe_var (pv 1))) pa_nil)) (pe_bltn (v := .ty "tuple") (by rfl) B.b_tuple (by decide +kernel) rfl) (nomark _))) (xw_or1 (xt_cmp (o_eq hu) (xe_vb (xe_callB c_lenA (by rfl) B.b_len (by decide +kernel) (xlb_cons (xe_vb (xe_var (pv 1))) xlb_nil))) (xe_vb xe_int) (nomark _))))) (xss_one (xs_ret (by decide) xe_bl)) xss_nil) (xss_one (xs_ret (by decide) (xe_and (xe_callB (c_all rfl) (by rfl) B.b_all (by decide +kernel) (xlb_cons (xe_vb (xe_ov (xe_compS (own_name 2) yes_ok (pe_lc (own := [("deed", 2)]) (g := (gName 2)) rfl nd (pi_seq (xe_vb (xe_var (pv 1)))) (blkOk_by (own := [("deed", 2)]) (N := N_is_lot) (sc := defScope s_is_lot) (by decide +kernel)) (fun _ _ _ _ _ => pg_name (i := 2) nd rfl (Or.inl rfl)) (fun _ _ _ _ _ => pts_nil) (fun _ _ _ _ _ => (xe_callC C_is_deed (hr.mono (by omega)) hgd (by rfl) (xa_val (xe_var (pv 0)) (xa_val (xe_var (pv 2)) xa_nil)) (argN_val (argN_val argN_nil)))))))) xlb_nil)) (xe_one (xe_callC C_is_ascending (hr.mono (by omega)) hgd (by rfl) (xa_val (xe_var (pv 1)) xa_nil) (argN_val argN_nil))))))))
abbrev s_need_gapped_told : Stmt := topS 22
abbrev N_need_gapped_told : List Str := ["cords", "gapped", "number", "item"]
theorem sc_need_gapped_told : FnScope N_need_gapped_told ["cords", "gapped"] (defScope s_need_gapped_told) := ⟨rfl, rfl, rfl, by decide +kernel, rfl, by decide +kernel, by decide +kernel⟩
def m_need_gapped_told : List Slot → Tr D := fnF 4 .v (sSeq (sIf (bNot (tt (eCall m_is_tuple_of_at_most (aVal (eVar 1) (aVal (eC (.int 12)) aNil))))) (fun _ => .fail) sNext) (sForE (lCons (eVar 1) lNil) (gT 2 (gsCons (gN 2) (gsCons (gN 3) gsNil))) (sIf (bAnd (tt (e2 dNotN (eVar 3) (eC .none))) (bNot (tt (eCall m_is_lot (aVal (eVar 0) (aVal (eVar 3) aNil)))))) (fun _ => .fail) sNext)))
theorem ok_need_gapped_told {f : Addr} {fd : FuncData} (F : Fun K "need_gapped_told" "need_gapped_told" s_need_gapped_told f fd) (B : Bt K mg) (C_is_tuple_of_at_most : Cal P w K mg base "is_tuple_of_at_most" 1 ["value", "most"] (spD K .v 2 m_is_tuple_of_at_most)) (C_is_lot : Cal P w K mg base "is_lot" 3 ["cords", "value"] (spD K .v 2 m_is_lot)) : FnG P w K mg base 4 f fd ["cords", "gapped"] (spD K .v 2 m_need_gapped_told) :=
  fn_ok F sc_need_gapped_told fun cdv A outer s H E hr hgd => (have hu := hr.units; have hu1 := hu_of hr; have nd := sc_need_gapped_told.nd; (xss_cons (xs_if (xt_not (xt_val (xe_vb (xe_callC C_is_tuple_of_at_most (hr.mono (by omega)) hgd (by rfl) (xa_val (xe_var (pv 1)) (xa_val (xe_globI (by rfl) B.c_MOST_ITEMS) xa_nil)) (argN_val (argN_val argN_nil)))))) (xss_one xs_never) xss_nil) (xss_one (xs_forE (ps_for PassesOwn.never rfl (pi_enumT (by rfl) B.b_enumerate (xl_cons (xe_var (pv 1)) xl_nil)) (xg_tup rfl (xgs_cons (xg_name (pg_name (i := 2) nd rfl (Or.inl rfl))) (xgs_cons (xg_name (pg_name (i := 3) nd rfl (Or.inl rfl))) xgs_nil))) (xss_one (xs_if (PW.pt (xw_and (xt_cmp o_notN (xe_vb (xe_var (pv 3))) (xe_vb xe_non) (nomark _)) (xw_and1 (xt_not (xt_val (xe_vb (xe_callC C_is_lot (hr.mono (by omega)) hgd (by rfl) (xa_val (xe_var (pv 0)) (xa_val (xe_var (pv 3)) xa_nil)) (argN_val (argN_val argN_nil))))))))) (xss_one xs_never) xss_nil)))))))
abbrev s_need_with_gapped : Stmt := topS 23
abbrev N_need_with_gapped : List Str := ["cords", "gapped"]
theorem sc_need_with_gapped : FnScope N_need_with_gapped ["cords", "gapped"] (defScope s_need_with_gapped) := ⟨rfl, rfl, rfl, by decide +kernel, rfl, by decide +kernel, by decide +kernel⟩
def m_need_with_gapped : List Slot → Tr D := fnF 2 .v (sSeq (sExpr (eCall m_need_cords (aVal (eVar 0) aNil))) (sExpr (eCall m_need_gapped_told (aVal (eVar 0) (aVal (eVar 1) aNil)))))
theorem ok_need_with_gapped {f : Addr} {fd : FuncData} (F : Fun K "need_with_gapped" "need_with_gapped" s_need_with_gapped f fd) (B : Bt K mg) (C_need_cords : Cal P w K mg base "need_cords" 2 ["cords"] (spD K .v 1 m_need_cords)) (C_need_gapped_told : Cal P w K mg base "need_gapped_told" 4 ["cords", "gapped"] (spD K .v 2 m_need_gapped_told)) : FnG P w K mg base 5 f fd ["cords", "gapped"] (spD K .v 2 m_need_with_gapped) :=
  fn_ok F sc_need_with_gapped fun cdv A outer s H E hr hgd => (have hu := hr.units; have hu1 := hu_of hr; have nd := sc_need_with_gapped.nd; (xss_cons (xs_expr (xe_vb (xe_callC C_need_cords (hr.mono (by omega)) hgd (by rfl) (xa_val (xe_var (pv 0)) xa_nil) (argN_val argN_nil)))) (xss_one (xs_expr (xe_vb (xe_callC C_need_gapped_told (hr.mono (by omega)) hgd (by rfl) (xa_val (xe_var (pv 0)) (xa_val (xe_var (pv 1)) xa_nil)) (argN_val (argN_val argN_nil))))))))
abbrev s_lots_in_gapped : Stmt := topS 24
abbrev N_lots_in_gapped : List Str := ["cords", "gapped", "item"]
theorem sc_lots_in_gapped : FnScope N_lots_in_gapped ["cords", "gapped"] (defScope s_lots_in_gapped) := ⟨rfl, rfl, rfl, by decide +kernel, rfl, by decide +kernel, by decide +kernel⟩
def m_lots_in_gapped : List Slot → Tr D := fnF 3 .v (sRet (eCompS (eVar 1) (gN 2) fYes (eIf (tt (e2 dIsN (eVar 2) (eC .none))) (eCall m_deeds_with (aVal (eVar 0) (aVal (eC d_WORDS) aNil))) (eVar 2)) [2]))
theorem ok_lots_in_gapped {f : Addr} {fd : FuncData} (F : Fun K "lots_in_gapped" "lots_in_gapped" s_lots_in_gapped f fd) (B : Bt K mg) (C_deeds_with : Cal P w K mg base "deeds_with" 2 ["cords", "words"] (spD K .v 2 m_deeds_with)) : FnG P w K mg base 3 f fd ["cords", "gapped"] (spD K .v 2 m_lots_in_gapped) :=
  fn_ok F sc_lots_in_gapped fun cdv A outer s H E hr hgd => (have hu := hr.units; have hu1 := hu_of hr; have nd := sc_lots_in_gapped.nd; (xss_one (xs_ret (by decide) (xe_ov (xe_compS (own_name 2) yes_ok (pe_lc (own := [("item", 2)]) (g := (gName 2)) rfl nd (pi_seq (xe_vb (xe_var (pv 1)))) (blkOk_by (own := [("item", 2)]) (N := N_lots_in_gapped) (sc := defScope s_lots_in_gapped) (by decide +kernel)) (fun _ _ _ _ _ => pg_name (i := 2) nd rfl (Or.inl rfl)) (fun _ _ _ _ _ => pts_nil) (fun _ _ _ _ _ => (xe_if (xt_cmp o_isN (xe_vb (xe_var (pv 2))) (xe_vb xe_non) (nomark _)) (xe_callC C_deeds_with (hr.mono (by omega)) hgd (by rfl) (xa_val (xe_var (pv 0)) (xa_val (xe_globD (by rfl) B.c_WORDS) xa_nil)) (argN_val (argN_val argN_nil))) (xe_var (pv 2))))))))))
abbrev s_fills : Stmt := topS 25
abbrev N_fills : List Str := ["cords", "gapped", "row", "deed", "lot"]
theorem sc_fills : FnScope N_fills ["cords", "gapped", "row"] (defScope s_fills) := ⟨rfl, rfl, rfl, by decide +kernel, rfl, by decide +kernel, by decide +kernel⟩
def m_fills : List Slot → Tr D := fnF 5 .v (sSeq (sIf (tt (e2 dNe (eCB dLenA (lCons (eVar 2) lNil)) (eCB dLenA (lCons (eVar 1) lNil)))) (sRet (eC (.bool false))) sNext) (sRet (eCB dAll (lCons (eCompZM (lCons (eVar 2) (lCons (eCall m_lots_in_gapped (aVal (eVar 0) (aVal (eVar 1) aNil))) lNil)) (gT 2 (gsCons (gN 3) (gsCons (gN 4) gsNil))) fYes (e2 (dInA false) (eVar 3) (eVar 4)) [3, 4]) lNil))))
theorem ok_fills {f : Addr} {fd : FuncData} (F : Fun K "fills" "fills" s_fills f fd) (B : Bt K mg) (C_lots_in_gapped : Cal P w K mg base "lots_in_gapped" 3 ["cords", "gapped"] (spD K .v 2 m_lots_in_gapped)) : FnG P w K mg base 4 f fd ["cords", "gapped", "row"] (spD K .v 3 m_fills) :=
  fn_ok F sc_fills fun cdv A outer s H E hr hgd => (have hu := hr.units; have hu1 := hu_of hr; have nd := sc_fills.nd; (xss_cons (xs_if (xt_cmp (o_ne hu) (xe_vb (xe_callB c_lenA (by rfl) B.b_len (by decide +kernel) (xlb_cons (xe_vb (xe_var (pv 2))) xlb_nil))) (xe_vb (xe_callB c_lenA (by rfl) B.b_len (by decide +kernel) (xlb_cons (xe_vb (xe_var (pv 1))) xlb_nil))) (nomark _)) (xss_one (xs_ret (by decide) xe_bl)) xss_nil) (xss_one (xs_ret (by decide) (xe_callB (c_all rfl) (by rfl) B.b_all (by decide +kernel) (xlb_cons (xe_vb (xe_ov (xe_compZM (own_two 3 4) yes_ok (pe_lc (own := [("deed", 3), ("lot", 4)]) (g := (gTup _ 2 (gCons (gName 3) (gCons (gName 4) gNil)))) rfl nd (pi_zipM (by rfl) B.b_zip (xl_cons (xe_var (pv 2)) (xl_cons (xe_callC C_lots_in_gapped (hr.mono (by omega)) hgd (by rfl) (xa_val (xe_var (pv 0)) (xa_val (xe_var (pv 1)) xa_nil)) (argN_val (argN_val argN_nil))) xl_nil))) (blkOk_by (own := [("deed", 3), ("lot", 4)]) (N := N_fills) (sc := defScope s_fills) (by decide +kernel)) (fun _ _ _ _ _ => pg_tup rfl (pgs_cons (pg_name (i := 3) nd rfl (Or.inl rfl)) (pgs_cons (pg_name (i := 4) nd rfl (Or.inl rfl)) pgs_nil))) (fun _ _ _ _ _ => pts_nil) (fun _ _ _ _ _ => (xe_cmp (o_inA0 hu) (xe_vb (xe_var (pv 3))) (xe_vb (xe_var (pv 4))) (by with_unfolding_all rfl))))))) xlb_nil))))))
abbrev s_need_gapped : Stmt := topS 27
abbrev N_need_gapped : List Str := ["cords", "gapped"]
theorem sc_need_gapped : FnScope N_need_gapped ["cords", "gapped"] (defScope s_need_gapped) := ⟨rfl, rfl, rfl, by decide +kernel, rfl, by decide +kernel, by decide +kernel⟩
def m_need_gapped : List Slot → Tr D := fnF 2 .v (sSeq (sExpr (eCall m_need_with_gapped (aVal (eVar 0) (aVal (eVar 1) aNil)))) (sRet (eVar 1)))
theorem ok_need_gapped {f : Addr} {fd : FuncData} (F : Fun K "need_gapped" "need_gapped" s_need_gapped f fd) (B : Bt K mg) (C_need_with_gapped : Cal P w K mg base "need_with_gapped" 5 ["cords", "gapped"] (spD K .v 2 m_need_with_gapped)) : FnG P w K mg base 6 f fd ["cords", "gapped"] (spD K .v 2 m_need_gapped) :=
  fn_ok F sc_need_gapped fun cdv A outer s H E hr hgd => (have hu := hr.units; have hu1 := hu_of hr; have nd := sc_need_gapped.nd; (xss_cons (xs_expr (xe_vb (xe_callC C_need_with_gapped (hr.mono (by omega)) hgd (by rfl) (xa_val (xe_var (pv 0)) (xa_val (xe_var (pv 1)) xa_nil)) (argN_val (argN_val argN_nil))))) (xss_one (xs_ret (by decide) (xe_var (pv 1))))))
abbrev s_all_deeds : Stmt := topS 28
abbrev N_all_deeds : List Str := ["cords"]
theorem sc_all_deeds : FnScope N_all_deeds ["cords"] (defScope s_all_deeds) := ⟨rfl, rfl, rfl, by decide +kernel, rfl, by decide +kernel, by decide +kernel⟩
def m_all_deeds : List Slot → Tr D := fnF 1 .v (sSeq (sExpr (eCall m_need_cords (aVal (eVar 0) aNil))) (sRet (eCall m_deeds_with (aVal (eVar 0) (aVal (eC d_WORDS) aNil)))))
theorem ok_all_deeds {f : Addr} {fd : FuncData} (F : Fun K "all_deeds" "all_deeds" s_all_deeds f fd) (B : Bt K mg) (C_need_cords : Cal P w K mg base "need_cords" 2 ["cords"] (spD K .v 1 m_need_cords)) (C_deeds_with : Cal P w K mg base "deeds_with" 2 ["cords", "words"] (spD K .v 2 m_deeds_with)) : FnG P w K mg base 3 f fd ["cords"] (spD K .v 1 m_all_deeds) :=
  fn_ok F sc_all_deeds fun cdv A outer s H E hr hgd => (have hu := hr.units; have hu1 := hu_of hr; have nd := sc_all_deeds.nd; (xss_cons (xs_expr (xe_vb (xe_callC C_need_cords (hr.mono (by omega)) hgd (by rfl) (xa_val (xe_var (pv 0)) xa_nil) (argN_val argN_nil)))) (xss_one (xs_ret (by decide) (xe_callC C_deeds_with (hr.mono (by omega)) hgd (by rfl) (xa_val (xe_var (pv 0)) (xa_val (xe_globD (by rfl) B.c_WORDS) xa_nil)) (argN_val (argN_val argN_nil)))))))
abbrev s_does_fill : Stmt := topS 29
abbrev N_does_fill : List Str := ["cords", "gapped", "row"]
theorem sc_does_fill : FnScope N_does_fill ["cords", "gapped", "row"] (defScope s_does_fill) := ⟨rfl, rfl, rfl, by decide +kernel, rfl, by decide +kernel, by decide +kernel⟩
def m_does_fill : List Slot → Tr D := fnF 3 .v (sSeq (sExpr (eCall m_need_with_gapped (aVal (eVar 0) (aVal (eVar 1) aNil)))) (sSeq (sExpr (eCall m_need_row (aVal (eVar 0) (aVal (eVar 2) aNil)))) (sRet (eCall m_fills (aVal (eVar 0) (aVal (eVar 1) (aVal (eVar 2) aNil)))))))
theorem ok_does_fill {f : Addr} {fd : FuncData} (F : Fun K "does_fill" "does_fill" s_does_fill f fd) (B : Bt K mg) (C_need_with_gapped : Cal P w K mg base "need_with_gapped" 5 ["cords", "gapped"] (spD K .v 2 m_need_with_gapped)) (C_need_row : Cal P w K mg base "need_row" 3 ["cords", "row"] (spD K .v 2 m_need_row)) (C_fills : Cal P w K mg base "fills" 4 ["cords", "gapped", "row"] (spD K .v 3 m_fills)) : FnG P w K mg base 6 f fd ["cords", "gapped", "row"] (spD K .v 3 m_does_fill) :=
  fn_ok F sc_does_fill fun cdv A outer s H E hr hgd => (have hu := hr.units; have hu1 := hu_of hr; have nd := sc_does_fill.nd; (xss_cons (xs_expr (xe_vb (xe_callC C_need_with_gapped (hr.mono (by omega)) hgd (by rfl) (xa_val (xe_var (pv 0)) (xa_val (xe_var (pv 1)) xa_nil)) (argN_val (argN_val argN_nil))))) (xss_cons (xs_expr (xe_vb (xe_callC C_need_row (hr.mono (by omega)) hgd (by rfl) (xa_val (xe_var (pv 0)) (xa_val (xe_var (pv 2)) xa_nil)) (argN_val (argN_val argN_nil))))) (xss_one (xs_ret (by decide) (xe_callC C_fills (hr.mono (by omega)) hgd (by rfl) (xa_val (xe_var (pv 0)) (xa_val (xe_var (pv 1)) (xa_val (xe_var (pv 2)) xa_nil))) (argN_val (argN_val (argN_val argN_nil)))))))))
abbrev s_many_fillings : Stmt := topS 30
abbrev N_many_fillings : List Str := ["cords", "gapped", "many", "lot"]
theorem sc_many_fillings : FnScope N_many_fillings ["cords", "gapped"] (defScope s_many_fillings) := ⟨rfl, rfl, rfl, by decide +kernel, rfl, by decide +kernel, by decide +kernel⟩
def m_many_fillings : List Slot → Tr D := fnF 4 .v (sSeq (sExpr (eCall m_need_with_gapped (aVal (eVar 0) (aVal (eVar 1) aNil)))) (sSeq (sSet 2 (eC (.int 1))) (sSeq (sForS (eCall m_lots_in_gapped (aVal (eVar 0) (aVal (eVar 1) aNil))) (gN 3) (sSet 2 (e2 dMul (eVar 2) (eCB dLenA (lCons (eVar 3) lNil))))) (sRet (eVar 2)))))
theorem ok_many_fillings {f : Addr} {fd : FuncData} (F : Fun K "many_fillings" "many_fillings" s_many_fillings f fd) (B : Bt K mg) (C_need_with_gapped : Cal P w K mg base "need_with_gapped" 5 ["cords", "gapped"] (spD K .v 2 m_need_with_gapped)) (C_lots_in_gapped : Cal P w K mg base "lots_in_gapped" 3 ["cords", "gapped"] (spD K .v 2 m_lots_in_gapped)) : FnG P w K mg base 6 f fd ["cords", "gapped"] (spD K .v 2 m_many_fillings) :=
  fn_ok F sc_many_fillings fun cdv A outer s H E hr hgd => (have hu := hr.units; have hu1 := hu_of hr; have nd := sc_many_fillings.nd; (xss_cons (xs_expr (xe_vb (xe_callC C_need_with_gapped (hr.mono (by omega)) hgd (by rfl) (xa_val (xe_var (pv 0)) (xa_val (xe_var (pv 1)) xa_nil)) (argN_val (argN_val argN_nil))))) (xss_cons (xs_set (i := 2) nd rfl (Or.inl rfl) xe_int) (xss_cons (xs_forS (ps_for PassesOwn.never rfl (pi_seq (xe_callC C_lots_in_gapped (hr.mono (by omega)) hgd (by rfl) (xa_val (xe_var (pv 0)) (xa_val (xe_var (pv 1)) xa_nil)) (argN_val (argN_val argN_nil)))) (xg_name (pg_name (i := 3) nd rfl (Or.inl rfl))) (xss_one (xs_set (i := 2) nd rfl (Or.inl rfl) (xe_op o_mul (xe_vb (xe_var (pv 2))) (xe_vb (xe_callB c_lenA (by rfl) B.b_len (by decide +kernel) (xlb_cons (xe_vb (xe_var (pv 3))) xlb_nil)))))))) (xss_one (xs_ret (by decide) (xe_var (pv 2))))))))
abbrev s_filling_at : Stmt := topS 31
abbrev N_filling_at : List Str := ["cords", "gapped", "number", "row", "rest", "lot", "place"]
theorem sc_filling_at : FnScope N_filling_at ["cords", "gapped", "number"] (defScope s_filling_at) := ⟨rfl, rfl, rfl, by decide +kernel, rfl, by decide +kernel, by decide +kernel⟩
def m_filling_at : List Slot → Tr D := fnF 7 .v (sSeq (sExpr (eCall m_need_number (aVal (eVar 2) (aVal (eC (.int 0)) (aVal (e2 dSub (eCall m_many_fillings (aVal (eVar 0) (aVal (eVar 1) aNil))) (eC (.int 1))) aNil))))) (sSeq (sSetO 3 (eLst lNil)) (sSeq (sSet 4 (eVar 2)) (sSeq (sForS (eRev (eCall m_lots_in_gapped (aVal (eVar 0) (aVal (eVar 1) aNil)))) (gN 5) (sSeq (sAsg (eCB dDivmod (lCons (eVar 4) (lCons (eCB dLenA (lCons (eVar 5) lNil)) lNil))) (gT 2 (gsCons (gN 4) (gsCons (gN 6) gsNil)))) (sApp 3 (e2 dIx (eVar 5) (eVar 6))))) (sRet (eCB dTuple (lCons (eRev (eVarB 3)) lNil)))))))
theorem ok_filling_at {f : Addr} {fd : FuncData} (F : Fun K "filling_at" "filling_at" s_filling_at f fd) (B : Bt K mg) (C_many_fillings : Cal P w K mg base "many_fillings" 6 ["cords", "gapped"] (spD K .v 2 m_many_fillings)) (C_need_number : Cal P w K mg base "need_number" 2 ["value", "least", "most"] (spD K .v 3 m_need_number)) (C_lots_in_gapped : Cal P w K mg base "lots_in_gapped" 3 ["cords", "gapped"] (spD K .v 2 m_lots_in_gapped)) : FnG P w K mg base 7 f fd ["cords", "gapped", "number"] (spD K .v 3 m_filling_at) :=
  fn_ok F sc_filling_at fun cdv A outer s H E hr hgd => (have hu := hr.units; have hu1 := hu_of hr; have nd := sc_filling_at.nd; (xss_cons (xs_expr (xe_vb (xe_callC C_need_number (hr.mono (by omega)) hgd (by rfl) (xa_val (xe_var (pv 2)) (xa_val xe_int (xa_val (xe_op o_sub (xe_vb (xe_callC C_many_fillings (hr.mono (by omega)) hgd (by rfl) (xa_val (xe_var (pv 0)) (xa_val (xe_var (pv 1)) xa_nil)) (argN_val (argN_val argN_nil)))) (xe_vb xe_int)) xa_nil))) (argN_val (argN_val (argN_val argN_nil)))))) (xss_cons (xs_setO (i := 3) nd rfl (Or.inl rfl) (xe_lst xl_nil)) (xss_cons (xs_set (i := 4) nd rfl (Or.inl rfl) (xe_var (pv 2))) (xss_cons (xs_forS (ps_for PassesOwn.never rfl (pi_seq (xe_revE (xe_vb (xe_callC C_lots_in_gapped (hr.mono (by omega)) hgd (by rfl) (xa_val (xe_var (pv 0)) (xa_val (xe_var (pv 1)) xa_nil)) (argN_val (argN_val argN_nil)))))) (xg_name (pg_name (i := 5) nd rfl (Or.inl rfl))) (xss_cons (xs_asg (ps_asg (xe_callB c_divmod (by rfl) B.b_divmod (by decide +kernel) (xlb_cons (xe_vb (xe_var (pv 4))) (xlb_cons (xe_vb (xe_callB c_lenA (by rfl) B.b_len (by decide +kernel) (xlb_cons (xe_vb (xe_var (pv 5))) xlb_nil))) xlb_nil))) (xg_tup rfl (xgs_cons (xg_name (pg_name (i := 4) nd rfl (Or.inl rfl))) (xgs_cons (xg_name (pg_name (i := 6) nd rfl (Or.inl rfl))) xgs_nil))))) (xss_one (xs_app (ps_expr (pe_bm PySem.F.plainAttrs_list PySem.F.slot_list_append PySem.F.type_list_append mt_append (pv 3) (pa_cons (xe_ix (xe_vb (xe_var (pv 5))) (xe_vb (xe_var (pv 6))) (fun _ _ => rfl)) pa_nil)))))))) (xss_one (xs_ret (by decide) (xe_callT c_tuple (by rfl) B.b_tuple (by decide +kernel) (xlb_cons (xe_vb (xe_revE (xe_varB (pv 3)))) xlb_nil)))))))))
abbrev s_number_of_filling : Stmt := topS 32
abbrev N_number_of_filling : List Str := ["cords", "gapped", "row", "number", "deed", "lot"]
theorem sc_number_of_filling : FnScope N_number_of_filling ["cords", "gapped", "row"] (defScope s_number_of_filling) := ⟨rfl, rfl, rfl, by decide +kernel, rfl, by decide +kernel, by decide +kernel⟩
def m_number_of_filling : List Slot → Tr D := fnF 6 .v (sSeq (sIf (bNot (tt (eCall m_does_fill (aVal (eVar 0) (aVal (eVar 1) (aVal (eVar 2) aNil)))))) (sRet (eC .none)) sNext) (sSeq (sSet 3 (eC (.int 0))) (sSeq (sForZM (lCons (eVar 2) (lCons (eCall m_lots_in_gapped (aVal (eVar 0) (aVal (eVar 1) aNil))) lNil)) (gT 2 (gsCons (gN 4) (gsCons (gN 5) gsNil))) (sSet 3 (e2 dAddA (e2 dMul (eVar 3) (eCB dLenA (lCons (eVar 5) lNil))) (eIdxM (eVar 5) (eVar 4))))) (sRet (eVar 3)))))
theorem ok_number_of_filling {f : Addr} {fd : FuncData} (F : Fun K "number_of_filling" "number_of_filling" s_number_of_filling f fd) (B : Bt K mg) (C_does_fill : Cal P w K mg base "does_fill" 6 ["cords", "gapped", "row"] (spD K .v 3 m_does_fill)) (C_lots_in_gapped : Cal P w K mg base "lots_in_gapped" 3 ["cords", "gapped"] (spD K .v 2 m_lots_in_gapped)) : FnG P w K mg base 7 f fd ["cords", "gapped", "row"] (spD K .v 3 m_number_of_filling) :=
  fn_ok F sc_number_of_filling fun cdv A outer s H E hr hgd => (have hu := hr.units; have hu1 := hu_of hr; have nd := sc_number_of_filling.nd; (xss_cons (xs_if (xt_not (xt_val (xe_vb (xe_callC C_does_fill (hr.mono (by omega)) hgd (by rfl) (xa_val (xe_var (pv 0)) (xa_val (xe_var (pv 1)) (xa_val (xe_var (pv 2)) xa_nil))) (argN_val (argN_val (argN_val argN_nil))))))) (xss_one (xs_ret (by decide) xe_non)) xss_nil) (xss_cons (xs_set (i := 3) nd rfl (Or.inl rfl) xe_int) (xss_cons (xs_forZM (ps_for PassesOwn.never rfl (pi_zipM (by rfl) B.b_zip (xl_cons (xe_var (pv 2)) (xl_cons (xe_callC C_lots_in_gapped (hr.mono (by omega)) hgd (by rfl) (xa_val (xe_var (pv 0)) (xa_val (xe_var (pv 1)) xa_nil)) (argN_val (argN_val argN_nil))) xl_nil))) (xg_tup rfl (xgs_cons (xg_name (pg_name (i := 4) nd rfl (Or.inl rfl))) (xgs_cons (xg_name (pg_name (i := 5) nd rfl (Or.inl rfl))) xgs_nil))) (xss_one (xs_set (i := 3) nd rfl (Or.inl rfl) (xe_op o_addA (xe_vb (xe_op o_mul (xe_vb (xe_var (pv 3))) (xe_vb (xe_callB c_lenA (by rfl) B.b_len (by decide +kernel) (xlb_cons (xe_vb (xe_var (pv 5))) xlb_nil))))) (xe_vb (xe_idxM (pe_sqM PySem.F.slot_list_index PySem.F.type_list_index (mt_idxD hu) PySem.F.slot_tuple_index PySem.F.type_tuple_index (mt_idxS hu) (xe_vb (xe_var (pv 5))) (pa_cons (xe_vb (xe_var (pv 4))) pa_nil))))))))) (xss_one (xs_ret (by decide) (xe_var (pv 3))))))))
abbrev s_gapped_between : Stmt := topS 33
abbrev N_gapped_between : List Str := ["cords", "row", "far_row", "deed", "far_deed"]
theorem sc_gapped_between : FnScope N_gapped_between ["cords", "row", "far_row"] (defScope s_gapped_between) := ⟨rfl, rfl, rfl, by decide +kernel, rfl, by decide +kernel, by decide +kernel⟩
def m_gapped_between : List Slot → Tr D := fnF 5 .v (sSeq (sExpr (eCall m_need_cords (aVal (eVar 0) aNil))) (sSeq (sExpr (eCall m_need_row (aVal (eVar 0) (aVal (eVar 1) aNil)))) (sSeq (sIf (tt (e2 dGt (eCB dLenA (lCons (eVar 1) lNil)) (eC (.int 12)))) (fun _ => .fail) sNext) (sSeq (sExpr (eCall m_need_row (aVal (eVar 0) (aVal (eVar 2) aNil)))) (sSeq (sIf (tt (e2 dNe (eCB dLenA (lCons (eVar 2) lNil)) (eCB dLenA (lCons (eVar 1) lNil)))) (fun _ => .fail) sNext) (sRet (eCB dTuple (lCons (eCompZF (lCons (eVar 1) (lCons (eVar 2) lNil)) (gT 2 (gsCons (gN 3) (gsCons (gN 4) gsNil))) fYes (eCB dTuple (lCons (e2 dSortS2 (eVar 3) (eVar 4)) lNil)) [3, 4]) lNil))))))))
theorem ok_gapped_between {f : Addr} {fd : FuncData} (F : Fun K "gapped_between" "gapped_between" s_gapped_between f fd) (B : Bt K mg) (C_need_cords : Cal P w K mg base "need_cords" 2 ["cords"] (spD K .v 1 m_need_cords)) (C_need_row : Cal P w K mg base "need_row" 3 ["cords", "row"] (spD K .v 2 m_need_row)) : FnG P w K mg base 4 f fd ["cords", "row", "far_row"] (spD K .v 3 m_gapped_between) :=
  fn_okC F sc_gapped_between fun cdv A outer s H E hcdk hr hgd => (have hu := hr.units; have hu1 := hu_of hr; have nd := sc_gapped_between.nd; (xss_cons (xs_expr (xe_vb (xe_callC C_need_cords (hr.mono (by omega)) hgd (by rfl) (xa_val (xe_var (pv 0)) xa_nil) (argN_val argN_nil)))) (xss_cons (xs_expr (xe_vb (xe_callC C_need_row (hr.mono (by omega)) hgd (by rfl) (xa_val (xe_var (pv 0)) (xa_val (xe_var (pv 1)) xa_nil)) (argN_val (argN_val argN_nil))))) (xss_cons (xs_if (xt_cmp o_gt (xe_vb (xe_callB c_lenA (by rfl) B.b_len (by decide +kernel) (xlb_cons (xe_vb (xe_var (pv 1))) xlb_nil))) (xe_vb (xe_globI (by rfl) B.c_MOST_ITEMS)) (nomark _)) (xss_one xs_never) xss_nil) (xss_cons (xs_expr (xe_vb (xe_callC C_need_row (hr.mono (by omega)) hgd (by rfl) (xa_val (xe_var (pv 0)) (xa_val (xe_var (pv 2)) xa_nil)) (argN_val (argN_val argN_nil))))) (xss_cons (xs_if (xt_cmp (o_ne hu) (xe_vb (xe_callB c_lenA (by rfl) B.b_len (by decide +kernel) (xlb_cons (xe_vb (xe_var (pv 2))) xlb_nil))) (xe_vb (xe_callB c_lenA (by rfl) B.b_len (by decide +kernel) (xlb_cons (xe_vb (xe_var (pv 1))) xlb_nil))) (nomark _)) (xss_one xs_never) xss_nil) (xss_one (xs_ret (by decide) (xe_callT c_tuple (by rfl) B.b_tuple (by decide +kernel) (xlb_cons (xe_vb (xe_ov (xe_compZF (own_two 3 4) yes_ok (pe_lc (own := [("deed", 3), ("far_deed", 4)]) (g := (gTup _ 2 (gCons (gName 3) (gCons (gName 4) gNil)))) rfl nd (pi_zipF (by rfl) B.b_zip (xl_cons (xe_var (pv 1)) (xl_cons (xe_var (pv 2)) xl_nil))) (blkOk_by (own := [("deed", 3), ("far_deed", 4)]) (N := N_gapped_between) (sc := defScope s_gapped_between) (by decide +kernel)) (fun _ _ _ _ _ => pg_tup rfl (pgs_cons (pg_name (i := 3) nd rfl (Or.inl rfl)) (pgs_cons (pg_name (i := 4) nd rfl (Or.inl rfl)) pgs_nil))) (fun _ _ _ _ _ => pts_nil) (fun _ _ _ _ _ => (xe_callT c_tuple (by rfl) B.b_tuple (by decide +kernel) (xlb_cons (xe_vb (xe_ov (xe_sortS2 hcdk hu (by rfl) B.b_sorted (xe_var (pv 3)) (xe_var (pv 4))))) xlb_nil))))))) xlb_nil))))))))))
abbrev s_law_mixed : Stmt := topS 35
abbrev N_law_mixed : List Str := ["cell", "n", "blend"]
theorem sc_law_mixed : FnScope N_law_mixed ["cell", "n"] (defScope s_law_mixed) := ⟨rfl, rfl, rfl, by decide +kernel, rfl, by decide +kernel, by decide +kernel⟩
def m_law_mixed : List Slot → Tr D := fnF 3 .v (sSeq (sSet 2 (e2 dAddA (e2 dAddA (e2 dMod (eCB dInt1 (lCons (e2 dMul (e2 dMul (eVar 0) (e2 dAddA (eC (.int 1)) (e2 dMul (eC (.int 2)) (eVar 1)))) (eC (.int 48271))) lNil)) (eC (.int 2147483647))) (e2 dMul (e2 dMul (eC (.int 7919)) (eVar 1)) (eVar 1))) (e2 dMul (eC (.int 104729)) (eVar 1)))) (sRet (e2 dDiv (e2 dMod (eCB dInt1 (lCons (e2 dMul (eVar 2) (eC (.int 69621))) lNil)) (eC (.int 2147483629))) (eC (.int 7)))))
theorem ok_law_mixed {f : Addr} {fd : FuncData} (F : Fun K "_law_mixed" "_law_mixed" s_law_mixed f fd) (B : Bt K mg)  : FnG P w K mg base 1 f fd ["cell", "n"] (spD K .v 2 m_law_mixed) :=
  fn_ok F sc_law_mixed fun cdv A outer s H E hr hgd => (have hu := hr.units; have hu1 := hu_of hr; have nd := sc_law_mixed.nd; (xss_cons (xs_set (i := 2) nd rfl (Or.inl rfl) (xe_op o_addA (xe_vb (xe_op o_addA (xe_vb (xe_op o_mod (xe_vb (xe_callT c_int (by rfl) B.b_int (by decide +kernel) (xlb_cons (xe_vb (xe_op o_mul (xe_vb (xe_op o_mul (xe_vb (xe_var (pv 0))) (xe_vb (xe_op o_addA (xe_vb xe_int) (xe_vb (xe_op o_mul (xe_vb xe_int) (xe_vb (xe_var (pv 1))))))))) (xe_vb xe_int))) xlb_nil))) (xe_vb xe_int))) (xe_vb (xe_op o_mul (xe_vb (xe_op o_mul (xe_vb xe_int) (xe_vb (xe_var (pv 1))))) (xe_vb (xe_var (pv 1))))))) (xe_vb (xe_op o_mul (xe_vb xe_int) (xe_vb (xe_var (pv 1))))))) (xss_one (xs_ret (by decide) (xe_op o_div (xe_vb (xe_op o_mod (xe_vb (xe_callT c_int (by rfl) B.b_int (by decide +kernel) (xlb_cons (xe_vb (xe_op o_mul (xe_vb (xe_var (pv 2))) (xe_vb xe_int))) xlb_nil))) (xe_vb xe_int))) (xe_vb xe_int))))))
abbrev s_law_folded : Stmt := topS 36
abbrev N_law_folded : List Str := ["script", "found", "n", "cell"]
theorem sc_law_folded : FnScope N_law_folded ["script"] (defScope s_law_folded) := ⟨rfl, rfl, rfl, by decide +kernel, rfl, by decide +kernel, by decide +kernel⟩
def m_law_folded : List Slot → Tr D := fnF 4 .o (sSeq (sSetO 1 (eCompR (lCons (eC (.int 64)) lNil) (gN 2) fYes (e2 dAddA (eC (.int 17)) (eVar 2)) [2])) (sSeq (sForE (lCons (eVar 0) lNil) (gT 2 (gsCons (gN 2) (gsCons (gN 3) gsNil))) (sSetIx 1 (e2 dMod (eCB dInt1 (lCons (eVar 2) lNil)) (eC (.int 64))) (e2 dMod (eCB dInt1 (lCons (e2 dAddA (e2 dMul (e2 dIx (eVarB 1) (e2 dMod (eCB dInt1 (lCons (eVar 2) lNil)) (eC (.int 64)))) (eC (.int 48271))) (eVar 3)) lNil)) (eC (.int 2147483647))))) (sSeq (sForR (lCons (eC (.int 1)) (lCons (eC (.int 64)) lNil)) (gN 2) (sSetIx 1 (eVar 2) (e2 dMod (eCB dInt1 (lCons (e2 dAddA (e2 dIx (eVarB 1) (eVar 2)) (e2 dMul (e2 dIx (eVarB 1) (e2 dSub (eVar 2) (eC (.int 1)))) (eC (.int 16807)))) lNil)) (eC (.int 2147483647))))) (sRetOwn 1))))
theorem ok_law_folded {f : Addr} {fd : FuncData} (F : Fun K "_law_folded" "_law_folded" s_law_folded f fd) (B : Bt K mg)  : FnG P w K mg base 1 f fd ["script"] (spD K .o 1 m_law_folded) :=
  fn_ok F sc_law_folded fun cdv A outer s H E hr hgd => (have hu := hr.units; have hu1 := hu_of hr; have nd := sc_law_folded.nd; (xss_cons (xs_setLc (ps_setLc (i := 1) (own := [("n", 2)]) (g := (gName 2)) rfl nd rfl rfl (sw_true rfl rfl rfl (by decide +kernel)) (pi_range1 (by rfl) B.b_range (xlb_cons (xe_vb xe_int) xlb_nil)) (blkOk_by (own := [("n", 2)]) (N := N_law_folded) (sc := defScope s_law_folded) (by decide +kernel)) (fun _ _ _ _ _ => pg_name (i := 2) nd rfl (Or.inl rfl)) (fun _ _ _ _ _ => pts_nil) (fun _ _ _ _ _ => (xe_op o_addA (xe_vb xe_int) (xe_vb (xe_var (pv 2)))))) (rd_compR1 (own_name 2) yes_ok (lenN_cons lenN_nil))) (xss_cons (xs_forE (ps_for PassesOwn.never rfl (pi_enumT (by rfl) B.b_enumerate (xl_cons (xe_var (pv 0)) xl_nil)) (xg_tup rfl (xgs_cons (xg_name (pg_name (i := 2) nd rfl (Or.inl rfl))) (xgs_cons (xg_name (pg_name (i := 3) nd rfl (Or.inl rfl))) xgs_nil))) (xss_one (xs_setIx (ps_asg (xe_op o_mod (xe_vb (xe_callT c_int (by rfl) B.b_int (by decide +kernel) (xlb_cons (xe_vb (xe_op o_addA (xe_vb (xe_op o_mul (xe_vb (xe_ix (xe_varB (pv 1)) (xe_vb (xe_op o_mod (xe_vb (xe_callT c_int (by rfl) B.b_int (by decide +kernel) (xlb_cons (xe_vb (xe_var (pv 2))) xlb_nil))) (xe_vb xe_int))) (fun _ _ => rfl))) (xe_vb xe_int))) (xe_vb (xe_var (pv 3))))) xlb_nil))) (xe_vb xe_int)) (pg_sub (pv 1) (xe_vb (xe_op o_mod (xe_vb (xe_callT c_int (by rfl) B.b_int (by decide +kernel) (xlb_cons (xe_vb (xe_var (pv 2))) xlb_nil))) (xe_vb xe_int))) set_list)))))) (xss_cons (xs_forR2 (ps_for PassesOwn.never rfl (pi_range2 (by rfl) B.b_range (xlb_cons (xe_vb xe_int) (xlb_cons (xe_vb xe_int) xlb_nil))) (xg_name (pg_name (i := 2) nd rfl (Or.inl rfl))) (xss_one (xs_setIx (ps_asg (xe_op o_mod (xe_vb (xe_callT c_int (by rfl) B.b_int (by decide +kernel) (xlb_cons (xe_vb (xe_op o_addA (xe_vb (xe_ix (xe_varB (pv 1)) (xe_vb (xe_var (pv 2))) (fun _ _ => rfl))) (xe_vb (xe_op o_mul (xe_vb (xe_ix (xe_varB (pv 1)) (xe_vb (xe_op o_sub (xe_vb (xe_var (pv 2))) (xe_vb xe_int))) (fun _ _ => rfl))) (xe_vb xe_int))))) xlb_nil))) (xe_vb xe_int)) (pg_sub (pv 1) (xe_vb (xe_var (pv 2))) set_list))))) (lenN_cons (lenN_cons lenN_nil))) (xss_one (xs_retOwn (pv 1)))))))
theorem fold_turn1 {S : D} {env : Ev} {k z : Int} (hk : 0 ≤ k) (h : FI S env) : ∃ env1 env2, (gT 2 (gsCons (gN 2) (gsCons (gN 3) gsNil))) (.tuple [.int k, .int z]) env = some env1 ∧
    sSetIx 1 (e2 dMod (eCB dInt1 (lCons (eVar 2) lNil)) (eC (.int 64))) (e2 dMod (eCB dInt1 (lCons (e2 dAddA (e2 dMul (e2 dIx (eVarB 1) (e2 dMod (eCB dInt1 (lCons (eVar 2) lNil)) (eC (.int 64)))) (eC (.int 48271))) (eVar 3)) lNil)) (eC (.int 2147483647))) env1 = .ret (.nx env2) ∧ FI S env2 := by
  obtain ⟨cells, d2, d3, rfl, hc⟩ := h
  obtain ⟨x, hx, hm⟩ := at_intsD cells (show 0 ≤ k % 64 by omega) (by rw [hc.1]; omega)
  have a1 : dMod (.int k) (.int 64) = some (.int (k % 64)) := dMod_p (by decide)
  have a2 : dMul (.int x) (.int 48271) = some (.int (x * 48271)) := dMul_r (by decide)
  have a3 : ∀ y, dMod (.int y) (.int 2147483647) = some (.int (y % 2147483647)) := fun y => dMod_p (by decide)
  have a4 : dIx (.list (cells.map PyData.int)) (.int (k % 64)) = some (.int x) := hx
  have a5 : ixN cells.length (k % 64) = some (k % 64).toNat := ixN_ok (by omega) (by rw [hc.1]; omega)
  refine ⟨_, [some (.val S), some (.own (.list ((cells.set (k % 64).toNat ((x * 48271 + z) % 2147483647)).map PyData.int))), some (.val (.int k)), some (.val (.int z))], rfl, ?_, _, _, _, rfl, hc.set _ _⟩
  simp [sSetIx, e2, eCB, lCons, lNil, eVar, eVarB, eC, Tr.bind, Tr.ofOpt, dInt1, dAddA_i, a1, a2, a3, a4, a5, List.map_set]
theorem fold_turn2 {S : D} {env : Ev} {k : Int} (hk : 1 ≤ k ∧ k < 64) (h : FI S env) : ∃ env1 env2, (gN 2) (.int k) env = some env1 ∧
    sSetIx 1 (eVar 2) (e2 dMod (eCB dInt1 (lCons (e2 dAddA (e2 dIx (eVarB 1) (eVar 2)) (e2 dMul (e2 dIx (eVarB 1) (e2 dSub (eVar 2) (eC (.int 1)))) (eC (.int 16807)))) lNil)) (eC (.int 2147483647))) env1 = .ret (.nx env2) ∧ FI S env2 := by
  obtain ⟨cells, d2, d3, rfl, hc⟩ := h
  obtain ⟨x, hx, hm⟩ := at_intsD cells (show 0 ≤ k by omega) (by rw [hc.1]; omega)
  obtain ⟨y, hy, hn⟩ := at_intsD cells (show 0 ≤ k - 1 by omega) (by rw [hc.1]; omega)
  have a1 : dSub (.int k) (.int 1) = some (.int (k - 1)) := rfl
  have a2 : dMul (.int y) (.int 16807) = some (.int (y * 16807)) := dMul_r (by decide)
  have a3 : ∀ y, dMod (.int y) (.int 2147483647) = some (.int (y % 2147483647)) := fun y => dMod_p (by decide)
  have a4 : dIx (.list (cells.map PyData.int)) (.int k) = some (.int x) := hx
  have a6 : dIx (.list (cells.map PyData.int)) (.int (k - 1)) = some (.int y) := hy
  have a5 : ixN cells.length k = some k.toNat := ixN_ok (by omega) (by rw [hc.1]; omega)
  refine ⟨_, [some (.val S), some (.own (.list ((cells.set k.toNat ((x + y * 16807) % 2147483647)).map PyData.int))), some (.val (.int k)), d3], rfl, ?_, _, _, _, rfl, hc.set _ _⟩
  simp [sSetIx, e2, eCB, lCons, lNil, eVar, eVarB, eC, Tr.bind, Tr.ofOpt, dInt1, dAddA_i, a1, a2, a3, a4, a5, a6, List.map_set]
theorem comp_first (S : D) : eCompR (lCons (eC (.int 64)) lNil) (gN 2) fYes (e2 dAddA (eC (.int 17)) (eVar 2)) [2] [some (.val S), none, none, none] = .ret (.list (first64.map PyData.int)) := by
  have key : ∀ ds : List Int, compD (gN 2) fYes (e2 dAddA (eC (.int 17)) (eVar 2)) [some (.val S), none, none, none] (ds.map PyData.int) = .ret (ds.map fun n => .int (17 + n)) := by
    intro ds
    induction ds with
    | nil => rfl
    | cons d ds ih =>
      rw [List.map_cons, compD]
      simp only [gN, List.set_cons_succ, List.set_cons_zero, fYes, Tr.bind, if_true, e2, eC, eVar]
      rw [ih]
      rfl
  have e0 : rngD 0 64 = ((List.range 64).map fun (n : Nat) => (n : Int)).map PyData.int := by
    unfold rngD
    rw [List.map_map]
    apply List.map_congr_left
    intro n _
    show PyData.int (0 + (n : Int)) = PyData.int n
    rw [Int.zero_add]
  have e1 : ok62 64 = true := by decide
  have e2' : Int.toNat 64 = 64 := rfl
  have e3 : wipeE [some (Slot.val S), none, none, none] [2] = [some (Slot.val S), none, none, none] := rfl
  unfold eCompR
  simp only [lCons, eC, lNil, Tr.bind, rngOf, e1, if_true, e2', e3]
  unfold endComp
  rw [if_pos (by rw [rngD_len, sizeLine_eq]; omega), e0, key]
  simp only [Tr.bind, first64, List.map_map]
  rfl
theorem folded_eq (ns : List Int) : ∃ cells, m_law_folded [.val (scrD (ns.map PyData.int))] = .ret (.list (cells.map PyData.int)) ∧ Cells cells := by
  obtain ⟨e1, h1, i1⟩ := forD_inv (tgt := gT 2 (gsCons (gN 2) (gsCons (gN 3) gsNil))) (FI (scrD (ns.map PyData.int))) (pairsFrom 0 (ns.map PyData.int)) [some (.val (scrD (ns.map PyData.int))), some (.own (.list (first64.map PyData.int))), none, none] ⟨_, _, _, rfl, first_cells⟩ fun d hd env h => by
    obtain ⟨k, z, hk, rfl⟩ := pairs_ints ns 0 d hd
    exact fold_turn1 (z := z) hk h
  obtain ⟨e2', h2, i2⟩ := forD_inv (tgt := gN 2) (FI (scrD (ns.map PyData.int))) (rngD 1 63) e1 i1 fun d hd env h => by
    unfold rngD at hd
    obtain ⟨n, hn, rfl⟩ := List.mem_map.mp hd
    have := List.mem_range.mp hn
    exact fold_turn2 (by omega) h
  obtain ⟨cells, d2, d3, rfl, hc⟩ := i2
  refine ⟨cells, ?_, hc⟩
  have s0 : startE 4 [Slot.val (scrD (ns.map PyData.int))] = [some (.val (scrD (ns.map PyData.int))), none, none, none] := rfl
  have s1 : (sSetO 1 (eCompR (lCons (eC (.int 64)) lNil) (gN 2) fYes (e2 dAddA (eC (.int 17)) (eVar 2)) [2])) (startE 4 [.val (scrD (ns.map PyData.int))]) = .ret (.nx [some (.val (scrD (ns.map PyData.int))), some (.own (.list (first64.map PyData.int))), none, none]) := by
    rw [s0]
    unfold sSetO
    rw [comp_first]
    rfl
  unfold m_law_folded fnF sSeq
  rw [s1]
  simp only [Tr.bind]
  have s2 : ∀ env S, env = [some (.val (scrD (ns.map PyData.int))), some (.own (.list (first64.map PyData.int))), none, none] → sForE (lCons (eVar 0) lNil) (gT 2 (gsCons (gN 2) (gsCons (gN 3) gsNil))) S env = forD (gT 2 (gsCons (gN 2) (gsCons (gN 3) gsNil))) S (pairsFrom 0 (ns.map PyData.int)) env := fun env S e => by
    subst e
    rfl
  rw [s2 _ _ rfl, h1]
  simp only [Tr.bind]
  have r0 : rngOf [PyData.int 1, PyData.int 64] = some (1, 63) := rfl
  have s3 : ∀ S env, sForR (lCons (eC (.int 1)) (lCons (eC (.int 64)) lNil)) (gN 2) S env = forD (gN 2) S (rngD 1 63) env := fun S env => by
    unfold sForR
    simp only [lCons, eC, lNil, Tr.bind, r0]
  rw [s3, h2]
  rfl
theorem mixed_eq {x n : Int} (hx : 0 ≤ x ∧ x < 2 ^ 60) (hn : 0 ≤ n ∧ n < 2 ^ 60) : ∃ y, m_law_mixed [.val (.int x), .val (.int n)] = .ret (.int y) ∧ 0 ≤ y ∧ y < 2147483648 := by
  refine ⟨((((x * (1 + 2 * n) * 48271) % 2147483647 + 7919 * n * n + 104729 * n) * 69621) % 2147483629) / 7, ?_, ?_, ?_⟩
  · have a1 : dMul (.int 2) (.int n) = some (.int (2 * n)) := dMul_l (by decide)
    have a2 : dMul (.int x) (.int (1 + 2 * n)) = some (.int (x * (1 + 2 * n))) := dMul_l (by omega)
    have a3 : dMul (.int (x * (1 + 2 * n))) (.int 48271) = some (.int (x * (1 + 2 * n) * 48271)) := dMul_r (by decide)
    have a4 : dMul (.int 7919) (.int n) = some (.int (7919 * n)) := dMul_l (by decide)
    have a5 : dMul (.int (7919 * n)) (.int n) = some (.int (7919 * n * n)) := dMul_r (by omega)
    have a6 : dMul (.int 104729) (.int n) = some (.int (104729 * n)) := dMul_l (by decide)
    have a7 : ∀ z, dMul (.int z) (.int 69621) = some (.int (z * 69621)) := fun z => dMul_r (by decide)
    have b1 : ∀ z, dMod (.int z) (.int 2147483647) = some (.int (z % 2147483647)) := fun z => dMod_p (by decide)
    have b2 : ∀ z, dMod (.int z) (.int 2147483629) = some (.int (z % 2147483629)) := fun z => dMod_p (by decide)
    have b3 : ∀ z, dDiv (.int z) (.int 7) = some (.int (z / 7)) := fun z => dDiv_p (by decide)
    simp [m_law_mixed, fnF, startE, sSeq, sSet, sRet, e2, eCB, lCons, lNil, eVar, eC, Tr.bind, Tr.ofOpt, dAddA_i, dInt1, a1, a2, a3, a4, a5, a6, a7, b1, b2, b3]
  · exact Int.ediv_nonneg (Int.emod_nonneg _ (by decide)) (by decide)
  · have := Int.emod_lt_of_pos (((x * (1 + 2 * n) * 48271) % 2147483647 + 7919 * n * n + 104729 * n) * 69621) (show (0 : Int) < 2147483629 by decide)
    omega
abbrev s_law_draw : Stmt := topS 37
abbrev N_law_draw : List Str := ["m", "limit", "n", "lot", "here", "cell"]
theorem sc_law_draw : FnScope N_law_draw ["m", "limit"] (defScope s_law_draw) := ⟨rfl, rfl, rfl, by decide +kernel, rfl, by decide +kernel, by decide +kernel⟩
theorem mixed_sp {x n : Int} {H : Hp} {Q : VK} (hx : 0 ≤ x ∧ x < 2 ^ 60) (hn : 0 ≤ n ∧ n < 2 ^ 60) (k : ∀ y H', Same H H' → 0 ≤ y ∧ y < 2147483648 → Q (.int y) H') : spD K .v 2 m_law_mixed [.int x, .int n] H Q E0 := by
  obtain ⟨y, e, hy⟩ := mixed_eq hx hn
  refine ⟨none, fun _ => False, 0, [.val (.int x), .val (.int n)], rfl, fun _ h => h, fun _ h => h.elim, ⟨rfl, fun _ z => nomatch z⟩, .cons (.int x) (.cons (.int n) .nil), ?_⟩
  rw [e]
  intro v H' k1 _ hv
  cases In.int_inv (show In K (fun _ => False) H' v (.int y) from hv)
  exact k y H' (fun b o e => k1 b o e id) hy
theorem ok_law_draw {f : Addr} {fd : FuncData} (F : Fun K "_law_draw" "_law_draw" s_law_draw f fd) (B : Bt K mg) (C_law_mixed : Cal P w K mg base "_law_mixed" 1 ["cell", "n"] (spD K .v 2 m_law_mixed)) : FnG P w K mg base 2 f fd ["m", "limit"] (spD K .v 2 fDraw) := by
  refine fnG_raw F sc_law_draw (fun _ _ _ _ h => spD_len h) fun cdv A outer s H vs Q E hr hgd hs => ?_
  have hu := hr.units
  have hu1 := hu_of hr
  have nd := sc_law_draw.nd
  refine ⟨_, pss_cons (ps_set (i := 2) nd rfl (.inl rfl) (pe_dget hu1 (pv 0) pe_str (fun _ _ => rfl)))
    (pss_cons (ps_dput hu1 (pv 0) pe_str (pe_op op_add (pv 2) pe_int) rfl)
    (pss_cons (ps_if (pt_cmpR (op_neD hu) (pe_dget hu1 (pv 0) pe_str (fun _ _ => rfl)) (pe_lst pa_nil) (nomark _))
      (pss_cons (ps_set (i := 3) nd rfl (.inl rfl) (pe_dget hu1 (pv 0) pe_str (fun _ _ => rfl)))
      (pss_cons (ps_set (i := 4) nd rfl (.inl rfl) (pe_op op_mod (pe_callTy call_int1 (by rfl) B.b_int (by decide +kernel) (pa_cons (pv 2) pa_nil)) (pe_callB call_len_seq (by rfl) B.b_len PySem.boot_len (pa_cons (pv 3) pa_nil))))
      (pss_cons (ps_set (i := 5) nd rfl (.inl rfl) (pe_ix ix_list (pv 3) (pv 4) (fun _ _ => rfl)))
      (pss_one (ps_if (pt_cmpR op_gt (pv 5) pe_int (nomark _))
        (pss_cons (ps_asg (pe_op op_fdiv (pv 5) (pv 1)) (pg_sub (pv 3) (pv 4) set_list))
        (pss_one (ps_ret (pe_op op_mod (pe_callTy call_int1 (by rfl) B.b_int (by decide +kernel) (pa_cons (pv 5) pa_nil)) (pv 1)))))
        pss_nil)))))
      pss_nil)
    (pss_cons (ps_set (i := 3) nd rfl (.inl rfl) (pe_dget hu1 (pv 0) pe_str (fun _ _ => rfl)))
    (pss_one (ps_ret (pe_op op_mod (pe_callTy call_int1 (by rfl) B.b_int (by decide +kernel)
      (pa_cons (pe_callG C_law_mixed (hr.mono (by omega)) hgd (by rfl)
        (pa_cons (pe_callG C_law_mixed (hr.mono (by omega)) hgd (by rfl)
          (pa_cons (pe_op op_add (pe_ix ix_list (pv 3) (pe_op op_mod (pe_callTy call_int1 (by rfl) B.b_int (by decide +kernel) (pa_cons (pv 2) pa_nil)) pe_int) (fun _ _ => rfl)) (pe_op op_mul pe_int (pe_op op_fdiv (pv 2) pe_int)))
          (pa_cons (pv 2) pa_nil)))
        (pa_cons (pe_op op_add (pv 2) pe_int) pa_nil))) pa_nil)) (pv 1))))))), ?_⟩
  obtain ⟨ω, N, b, ss, hl, om, dom, ⟨orc, tb⟩, hp, q⟩ := hs
  unfold fDraw at q
  split at q
  case h_2 => exact q.elim
  rename_i l
  split at q
  case isFalse => exact q.elim
  rename_i hb
  obtain ⟨c, rfl, q⟩ := q
  cases hp with
  | cons h1 hp =>
  cases hp with
  | cons h2 hp =>
  cases hp
  obtain ⟨w', rfl, rfl, _⟩ := h1
  cases In.int_inv h2
  obtain ⟨cells, great, n, hO⟩ := Orc.parts orc
  have fin : ∀ (r : Int) (H' : Hp), 0 ≤ r → r < l → Keep (some w') H H' → Orc w' c H' → Q (.int r) H' := fun r H' h0 h1 k o => by
    have e : ((r.toNat : Nat) : Int) = r := Int.toNat_of_nonneg h0
    refine q r.toNat (by omega) (.int r) H' k o ?_
    rw [e]
    exact .int r
  have hO1 := hO.step
  have k1 : Keep (some w') H (upd H w'.a (.dK (kvO w'.c w'.g (n + 1)))) := fun x o e hx => by
    rw [upd_ne (fun z => hx (.inl z))]
    exact e
  have g1 : DGet H w'.a (.str "spot") (some (.int n)) := by
    have := DGet.k (k := .inr "spot") hO.dict
    rwa [kvO_spot] at this
  have p1 : DPut H w'.a (.str "spot") (.int (n + 1)) (upd H w'.a (.dK (kvO w'.c w'.g (n + 1)))) := by
    have := DPut.k (v := .int (n + 1)) (k := .inr "spot") hO.dict (by rw [sizeLine_eq]; show 3 < _; omega)
    rwa [kvO_put] at this
  have get : ∀ {H' : Hp} {gr : List Int} {m : Int} {b : Nat}, OrcP w' cells gr m b H' → DGet H' w'.a (.str "great") (some (.ref w'.g)) ∧ DGet H' w'.a (.str "cells") (some (.ref w'.c)) := fun h => by
    have a1 := DGet.k (k := .inr "great") h.dict
    have a2 := DGet.k (k := .inr "cells") h.dict
    rw [kvO_great] at a1
    rw [kvO_cells] at a2
    exact ⟨a1, a2⟩
  refine ⟨_, rfl, _, _, rfl, g1, ?_⟩
  refine ⟨_, rfl, _, _, rfl, rfl, _, rfl, _, _, rfl, p1, ?_⟩
  refine ⟨_, rfl, _, _, rfl, (get hO1).1, Nat.zero_le _, fun p hp => ?_⟩
  have hO2 := hO1.same (same_new (o := .lst []) hp)
  have k2 := k1.trans (Keep.of (ω := some w') (same_new (o := .lst []) hp))
  refine ⟨.list (great.map .int), .list [], .lst (.inl (.inl hO2.gre)) (dp_ints great), .lst (.inl (.inl upd_same)) .nil, shaped_ints great, by decide, _, rfl, ?_⟩
  generalize upd (upd H w'.a (.dK (kvO w'.c w'.g (n + 1)))) p (.lst []) = H2 at hO2 k2
  have hn0 := hO.n0
  have hnb := hO.nb
  have i64 : ∃ x, atI (cells.map V.int) (n % 64) = some (V.int x) ∧ 0 ≤ x ∧ x < 2147483647 := by
    obtain ⟨x, e, hm⟩ := at_ints cells (show 0 ≤ n % 64 by omega) (by rw [hO.len]; omega)
    exact ⟨x, e, hO.cb x hm⟩
  obtain ⟨cx, hcx, hc0⟩ := i64
  by_cases hg : great = []
  · subst hg
    rw [if_neg (by simp [PyData.eqv, PyData.eqvAll])]
    refine ⟨_, rfl, _, _, rfl, (get hO2).2, ?_⟩
    refine ⟨_, rfl, _, rfl, .inl ⟨_, rfl, _, _, rfl, rfl, (show (0 : Int) < 64 by decide), ?_⟩⟩
    refine ⟨_, _, _, _, rfl, rfl, .inl (.inl hO2.cel), hcx, ?_⟩
    refine ⟨_, rfl, _, _, rfl, rfl, (show (0 : Int) < 64 ∧ (64 : Int) < 1073741824 by decide), ?_⟩
    refine ⟨_, _, rfl, rfl, .inl (by decide), ?_⟩
    refine ⟨_, _, rfl, rfl, _, rfl, ?_⟩
    refine mixed_sp (by omega) (by omega) fun y H3 s3 hy => ?_
    refine ⟨_, rfl, _, _, rfl, rfl, ?_⟩
    refine mixed_sp (by omega) (by omega) fun z H4 s4 hz => ?_
    refine .inl ⟨_, rfl, _, rfl, _, _, rfl, rfl, by omega, ?_⟩
    exact fin _ _ (Int.emod_nonneg _ (by omega)) (Int.emod_lt_of_pos _ (by omega)) (k2.trans ((Keep.of s3).trans (Keep.of s4))) ((hO2.same s3).same s4).orc
  · have hlen : 0 < great.length := List.length_pos_iff.mpr hg
    rw [if_pos (by cases great with | nil => exact absurd rfl hg | cons a b => simp [PyData.eqv, PyData.eqvAll])]
    refine ⟨_, rfl, _, _, rfl, (get hO2).1, ?_⟩
    refine ⟨_, rfl, .inl ⟨_, rfl, _, rfl, _, _, rfl, .inl (.inl (.inl hO2.gre)), ?_⟩⟩
    refine ⟨_, _, rfl, rfl, by rw [List.length_map]; omega, ?_⟩
    rw [List.length_map]
    obtain ⟨x, hx, hm⟩ := at_ints great (Int.emod_nonneg n (show (great.length : Int) ≠ 0 by omega)) (Int.emod_lt_of_pos n (show (0 : Int) < great.length by omega))
    have hxb := hO.gb x hm
    refine ⟨_, rfl, _, rfl, _, _, _, _, rfl, rfl, .inl (.inl hO2.gre), hx, ?_⟩
    refine ⟨_, rfl, _, _, rfl, rfl, _, rfl, ?_⟩
    by_cases hc : 0 < x
    · show if decide (0 < x) = true then _ else _
      rw [if_pos (decide_eq_true hc)]
      obtain ⟨j, hj, ej⟩ : ∃ j : Nat, j < great.length ∧ n % (great.length : Int) = j := ⟨(n % (great.length : Int)).toNat, by
        have := Int.emod_lt_of_pos n (show (0 : Int) < great.length by omega)
        have := Int.emod_nonneg n (show (great.length : Int) ≠ 0 by omega)
        omega, (Int.toNat_of_nonneg (Int.emod_nonneg n (show (great.length : Int) ≠ 0 by omega))).symm⟩
      have hq0 : 0 ≤ x / l := Int.ediv_nonneg (by omega) (by omega)
      have hq1 : x / l ≤ x := Int.ediv_le_self _ (by omega)
      have hO3 := hO2.less (j := j) (x := x / l) ⟨hq0, Nat.lt_of_le_of_lt (by omega) hxb.2⟩
      have k3 : Keep (some w') H2 (upd H2 w'.g (.lst ((great.set j (x / l)).map V.int))) := fun y o e hy => by
        rw [upd_ne (fun z => hy (.inr (.inr (.inl z))))]
        exact e
      refine ⟨_, rfl, _, rfl, _, _, rfl, rfl, (show 0 < l ∧ l < 1073741824 by omega), ?_⟩
      refine ⟨_, rfl, _, rfl, w'.g, great.map V.int, _, j, rfl, rfl, hO2.gre, ?_, ?_⟩
      · rw [ej, List.length_map]
        unfold ixN
        rw [if_pos (by omega), if_pos (by omega), Int.toNat_natCast]
      · rw [← List.map_set]
        refine ⟨_, rfl, .inl ⟨_, rfl, _, rfl, _, _, rfl, rfl, (show 0 < l by omega), ?_⟩⟩
        exact fin _ _ (Int.emod_nonneg _ (by omega)) (Int.emod_lt_of_pos _ (by omega)) (k2.trans k3) hO3.orc
    · show if decide (0 < x) = true then _ else _
      rw [if_neg (by simpa using hc)]
      refine ⟨_, rfl, _, _, rfl, (get hO2).2, ?_⟩
      refine ⟨_, rfl, _, rfl, .inl ⟨_, rfl, _, _, rfl, rfl, (show (0 : Int) < 64 by decide), ?_⟩⟩
      refine ⟨_, _, _, _, rfl, rfl, .inl (.inl hO2.cel), hcx, ?_⟩
      refine ⟨_, rfl, _, _, rfl, rfl, (show (0 : Int) < 64 ∧ (64 : Int) < 1073741824 by decide), ?_⟩
      refine ⟨_, _, rfl, rfl, .inl (by decide), ?_⟩
      refine ⟨_, _, rfl, rfl, _, rfl, ?_⟩
      refine mixed_sp (by omega) (by omega) fun y H3 s3 hy => ?_
      refine ⟨_, rfl, _, _, rfl, rfl, ?_⟩
      refine mixed_sp (by omega) (by omega) fun z H4 s4 hz => ?_
      refine .inl ⟨_, rfl, _, rfl, _, _, rfl, rfl, by omega, ?_⟩
      exact fin _ _ (Int.emod_nonneg _ (by omega)) (Int.emod_lt_of_pos _ (by omega)) (k2.trans ((Keep.of s3).trans (Keep.of s4))) ((hO2.same s3).same s4).orc
abbrev m_law_draw := fDraw
abbrev s_law_begun : Stmt := topS 38
abbrev N_law_begun : List Str := ["script", "m", "cell"]
theorem sc_law_begun : FnScope N_law_begun ["script"] (defScope s_law_begun) := ⟨rfl, rfl, rfl, by decide +kernel, rfl, by decide +kernel, by decide +kernel⟩
def greatF : FE := eCompS (eVar 0) (gN 2) fYes (eIf (tt (e2 dGe (eVar 2) (e2 dPow (eC (.int 10)) (eC (.int 18))))) (eVar 2) (eC (.int 0))) [2]
theorem great_eq (ns : List Int) (hl : ns.length ≤ 63) : greatF [some (.val (scrD (ns.map PyData.int))), none, none] = .ret (.list ((bigs ns).map PyData.int)) := by
  have a1 : dPow (.int 10) (.int 18) = some (.int (10 ^ 18)) := rfl
  have key : ∀ ds : List Int, compD (gN 2) fYes (eIf (tt (e2 dGe (eVar 2) (e2 dPow (eC (.int 10)) (eC (.int 18))))) (eVar 2) (eC (.int 0))) [some (.val (scrD (ns.map PyData.int))), none, none] (ds.map PyData.int) = .ret ((bigs ds).map PyData.int) := by
    intro ds
    induction ds with
    | nil => rfl
    | cons d ds ih =>
      rw [List.map_cons, compD]
      simp only [gN, List.set_cons_succ, List.set_cons_zero, fYes, Tr.bind, if_true, e2, eC, eVar, eIf, tt, Tr.ofOpt, a1, dGe, dInt, List.getElem?_cons_succ, List.getElem?_cons_zero]
      rw [ih]
      by_cases h : (1000000000000000000 : Int) ≤ d
      · simp [Tr.bind, bigs, h]
      · simp [Tr.bind, bigs, h]
  have e3 : wipeE [some (Slot.val (scrD (ns.map PyData.int))), none, none] [2] = [some (Slot.val (scrD (ns.map PyData.int))), none, none] := rfl
  have e4 : itemsOf (scrD (ns.map PyData.int)) = some (ns.map PyData.int) := rfl
  unfold greatF eCompS
  simp only [eVar, Tr.bind, List.getElem?_cons_zero, e4, e3]
  unfold endComp
  rw [if_pos (by rw [List.length_map, sizeLine_eq]; omega), key]
  rfl
set_option maxHeartbeats 400000 in
theorem ok_law_begun {f : Addr} {fd : FuncData} (F : Fun K "_law_begun" "_law_begun" s_law_begun f fd) (B : Bt K mg) (C_law_folded : Cal P w K mg base "_law_folded" 1 ["script"] (spD K .o 1 m_law_folded)) : FnG P w K mg base 2 f fd ["script"] (spBegun K) := by
  refine fnG_raw F sc_law_begun (fun _ _ _ _ ⟨a, ns, e, _⟩ => by rw [e]; rfl) fun cdv A outer s H vs Q E hr hgd hs => ?_
  have hu := hr.units
  have hu1 := hu_of hr
  have nd := sc_law_begun.nd
  refine ⟨_, pss_cons (ps_set (i := 1) nd rfl (.inl rfl) (pe_disp (pps_cons pe_str (xe_callC C_law_folded (hr.mono (by omega)) hgd (by rfl) (xa_val (xe_var (pv 0)) xa_nil) (argN_val argN_nil)) (pps_cons pe_str (pe_lst pa_nil) (pps_cons pe_str pe_int pps_nil))) rfl rfl (by intro z; cases z) (by decide)))
    (pss_cons (ps_dput hu1 (pv 1) pe_str (xe_compS (own_name 2) yes_ok (pe_lc (own := [("cell", 2)]) (g := (gName 2)) rfl nd (pi_seq (xe_vb (xe_var (pv 0)))) (blkOk_by (own := [("cell", 2)]) (N := N_law_begun) (sc := defScope s_law_begun) (by decide +kernel)) (fun _ _ _ _ _ => pg_name (i := 2) nd rfl (Or.inl rfl)) (fun _ _ _ _ _ => pts_nil)
      (fun _ _ _ _ _ => xe_if (xt_cmp o_ge (xe_vb (xe_var (pv 2))) (xe_vb (xe_op o_pow (xe_vb xe_int) (xe_vb xe_int))) (nomark _)) (xe_var (pv 2)) xe_int))) rfl)
    (pss_one (ps_ret (pv 1)))), ?_⟩
  obtain ⟨a, ns, rfl, hs, hl, hb, q⟩ := hs
  obtain ⟨cells, hcell, hC⟩ := folded_eq ns
  refine seqAsg (disp3 fun p hp => ?_)
  have s0 : Same H (upd H p (.dK [])) := same_new hp
  have p0 : upd H p (.dK []) p = some (.dK []) := upd_same
  generalize upd H p (.dK []) = H0 at s0 p0
  have hs0 : SqS K (fun _ => False) H0 a (ns.map V.int) := hs.mono (fun _ z => z.elim) fun x o e _ => s0 x o e
  have r0 : RepE K none (fun _ => False) H0 H0 0 (startE 3 [.val (scrD (ns.map PyData.int))]) (L2.start N_law_begun [.ref a]) := rep_start (Ns := N_law_begun) (ω := none) (N := fun _ => False) (fun _ h => h) (fun _ (h : False) => h.elim) rfl (fun _ z => nomatch z) (.cons (show SlotA K none (fun _ => False) H0 (.val (scrD (ns.map PyData.int))) (.ref a) from In.scr hs0 (in_ints ns)) .nil)
  rw [start3] at r0
  refine tX_ret r0 (call1.trans hcell) fun v H1 k1 _ hv => ?_
  obtain ⟨q1, rfl, hq, xs, hx, hxs⟩ := hv
  have ex := ints_in hxs
  subst ex
  have s1 : Same H0 H1 := fun x o e => k1 x o e id
  refine ⟨Nat.zero_le _, fun g0 hg0 => ?_⟩
  have s3 : Same H1 (upd H1 g0 (.lst [])) := same_new hg0
  generalize upd H1 g0 (.lst []) = H3 at s3
  refine ⟨s3 _ _ (s1 _ _ p0), [(.inr "cells", .ref q1), (.inr "great", .ref g0), (.inr "spot", .int 0)], rfl, (by show 3 ≤ 15; decide), ?_⟩
  have q1p : q1 ≠ p := fun e => by rw [e, p0] at hq; cases hq
  have sH3 : Same H H3 := fun x o e => s3 _ _ (s1 _ _ (s0 _ _ e))
  have ep : ∀ x o, H x = some o → x ≠ p := fun x o e z => by rw [z, hp] at e; cases e
  have s4 : Same H (upd H3 p (.dK (kvO q1 g0 0))) := fun x o e => by rw [upd_ne (ep x o e)]; exact sH3 x o e
  have p4 : upd H3 p (.dK (kvO q1 g0 0)) p = some (.dK (kvO q1 g0 0)) := upd_same
  have c4 : upd H3 p (.dK (kvO q1 g0 0)) q1 = some (.lst (cells.map V.int)) := by rw [upd_ne q1p]; exact s3 _ _ hx
  refine seqPut ?_
  have em : mergeK [] [(.inr "cells", .ref q1), (.inr "great", .ref g0), (.inr "spot", .int 0)] = kvO q1 g0 0 := rfl
  rw [em]
  generalize upd H3 p (.dK (kvO q1 g0 0)) = H4 at s4 p4 c4
  have hs4 : SqS K (fun _ => False) H4 a (ns.map V.int) := hs.mono (fun _ z => z.elim) fun x o e _ => s4 x o e
  have r4 : RepE K none (fun _ => False) H4 H4 0 (startE 3 [.val (scrD (ns.map PyData.int))]) (L2.start N_law_begun [.ref a]) := rep_start (Ns := N_law_begun) (ω := none) (N := fun _ => False) (fun _ h => h) (fun _ (h : False) => h.elim) rfl (fun _ z => nomatch z) (.cons (show SlotA K none (fun _ => False) H4 (.val (scrD (ns.map PyData.int))) (.ref a) from In.scr hs4 (in_ints ns)) .nil)
  rw [start3] at r4
  refine tX_ret (resl (σ' := [some (.ref a), some (.ref p), none]) r4 rfl fun i s e => ?_) (great_eq ns hl) fun v H5 k5 _ hv => ?_
  · rcases i with _ | _ | _ | i
    · rfl
    · simp at e
    · simp at e
    · simp at e
  obtain ⟨g, rfl, hg, ys, hy, hys⟩ := hv
  have ey := ints_in hys
  subst ey
  have s5 : Same H4 H5 := fun x o e => k5 x o e id
  have p5 := s5 _ _ p4
  refine ⟨_, rfl, p, _, rfl, DPut.k (k := .inr "great") p5 (by rw [sizeLine_eq]; show 3 < _; omega), ?_⟩
  have gp : g ≠ p := fun e => by rw [e, p4] at hg; cases hg
  refine ⟨_, rfl, q ⟨p, q1, g, []⟩ rfl _ (fun x o e => ?_) hp ?_ ?_ fun b hb' => ?_⟩
  · rw [upd_ne (ep x o e)]
    exact s5 _ _ (s4 _ _ e)
  · cases e : H q1 with
    | none => rfl
    | some o => rw [s0 _ _ e] at hq; cases hq
  · cases e : H g with
    | none => rfl
    | some o => rw [s4 _ _ e] at hg; cases hg
  · refine OrcP.orc (cells := cells) (great := bigs ns) (n := 0) ⟨upd_same, ?_, ?_, hC.1, hC.2, ?_, big_bound hb, Int.le_refl _, by omega, fun e => ?_, fun p m => nomatch m⟩
    · rw [upd_ne q1p]
      exact s5 _ _ c4
    · rw [upd_ne gp]
      exact hy
    · unfold bigs
      rw [List.length_map]
      exact hl
    · have e' : q1 = g := e
      rw [← e', c4] at hg
      cases hg
abbrev s_law_of : Stmt := topS 39
abbrev N_law_of : List Str := ["m", "some"]
theorem sc_law_of : FnScope N_law_of ["m", "some"] (defScope s_law_of) := ⟨rfl, rfl, rfl, by decide +kernel, rfl, by decide +kernel, by decide +kernel⟩
def m_law_of : List Slot → Tr D := fnF 2 .v (sRet (e2 dIx (eVar 1) (eCall m_law_draw (aOrc 0 (aVal (eCB dLenA (lCons (eVar 1) lNil)) aNil)))))
theorem ok_law_of {f : Addr} {fd : FuncData} (F : Fun K "_law_of" "_law_of" s_law_of f fd) (B : Bt K mg) (C_law_draw : Cal P w K mg base "_law_draw" 2 ["m", "limit"] (spD K .v 2 m_law_draw)) : FnG P w K mg base 3 f fd ["m", "some"] (spD K .v 2 m_law_of) :=
  fn_ok F sc_law_of fun cdv A outer s H E hr hgd => (have hu := hr.units; have hu1 := hu_of hr; have nd := sc_law_of.nd; (xss_one (xs_ret (by decide) (xe_ix (xe_vb (xe_var (pv 1))) (xe_vb (xe_callC C_law_draw (hr.mono (by omega)) hgd (by rfl) (xa_orc (pv 0) (xa_val (xe_callB c_lenA (by rfl) B.b_len (by decide +kernel) (xlb_cons (xe_vb (xe_var (pv 1))) xlb_nil)) xa_nil)) (argN_orc (argN_val argN_nil)))) (fun _ _ => rfl)))))
abbrev s_law_like : Stmt := topS 40
abbrev N_law_like : List Str := ["got", "due"]
theorem sc_law_like : FnScope N_law_like ["got", "due"] (defScope s_law_like) := ⟨rfl, rfl, rfl, by decide +kernel, rfl, by decide +kernel, by decide +kernel⟩
def m_law_like : List Slot → Tr D := fnF 2 .v (sRet (e2 dEq (eCB dRepr (lCons (eVar 0) lNil)) (eCB dRepr (lCons (eVar 1) lNil))))
theorem ok_law_like {f : Addr} {fd : FuncData} (F : Fun K "_law_like" "_law_like" s_law_like f fd) (B : Bt K mg)  : FnG P w K mg base 1 f fd ["got", "due"] (spD K .v 2 m_law_like) :=
  fn_ok F sc_law_like fun cdv A outer s H E hr hgd => (have hu := hr.units; have hu1 := hu_of hr; have nd := sc_law_like.nd; (xss_one (xs_ret (by decide) (xe_cmp (o_eq hu) (xe_vb (xe_callB (c_repr hgd hu) (by rfl) B.b_repr (by decide +kernel) (xlb_cons (xe_vb (xe_var (pv 0))) xlb_nil))) (xe_vb (xe_callB (c_repr hgd hu) (by rfl) B.b_repr (by decide +kernel) (xlb_cons (xe_vb (xe_var (pv 1))) xlb_nil))) (nomark _)))))
abbrev s_law_named : Stmt := topS 41
abbrev N_law_named : List Str := ["marks", "mark", "seen", "found"]
theorem sc_law_named : FnScope N_law_named ["marks"] (defScope s_law_named) := ⟨rfl, rfl, rfl, by decide +kernel, rfl, by decide +kernel, by decide +kernel⟩
def m_law_named : List Slot → Tr D := fnF 4 .v (sSeq (sPar true true 2 3 (eLst lNil) (eLst lNil)) (sSeq (sForS (eVar 0) (gN 1) (sSeq (sIf (tt (e2 (dIn true) (eVar 1) (eVarB 2))) (sApp 2 (eVar 1)) sNext) (sApp 3 (eIdx (eVarB 2) (eVar 1))))) (sRet (eCB dTuple (lCons (eVarB 3) lNil)))))
theorem ok_law_named {f : Addr} {fd : FuncData} (F : Fun K "_law_named" "_law_named" s_law_named f fd) (B : Bt K mg)  : FnG P w K mg base 1 f fd ["marks"] (spD K .v 1 m_law_named) :=
  fn_ok F sc_law_named fun cdv A outer s H E hr hgd => (have hu := hr.units; have hu1 := hu_of hr; have nd := sc_law_named.nd; (xss_cons (xs_par (o1 := true) (o2 := true) (ps_par rfl nd rfl rfl (by decide) rfl rfl (pa_cons (xe_lst xl_nil) (pa_cons (xe_lst xl_nil) pa_nil)) (by rfl))) (xss_cons (xs_forS (ps_for PassesOwn.never rfl (pi_seq (xe_var (pv 0))) (xg_name (pg_name (i := 1) nd rfl (Or.inl rfl))) (xss_cons (xs_if (xt_cmp o_notin (xe_vb (xe_var (pv 1))) (xe_varB (pv 2)) (by with_unfolding_all rfl)) (xss_one (xs_app (ps_expr (pe_bm PySem.F.plainAttrs_list PySem.F.slot_list_append PySem.F.type_list_append mt_append (pv 2) (pa_cons (xe_var (pv 1)) pa_nil))))) xss_nil) (xss_one (xs_app (ps_expr (pe_bm PySem.F.plainAttrs_list PySem.F.slot_list_append PySem.F.type_list_append mt_append (pv 3) (pa_cons (xe_idx (pe_bm PySem.F.plainAttrs_list PySem.F.slot_list_index PySem.F.type_list_index mt_index (xe_varB (pv 2)) (pa_cons (xe_vb (xe_var (pv 1))) pa_nil))) pa_nil)))))))) (xss_one (xs_ret (by decide) (xe_callT c_tuple (by rfl) B.b_tuple (by decide +kernel) (xlb_cons (xe_varB (pv 3)) xlb_nil)))))))
abbrev s_law_straight : Stmt := topS 42
abbrev N_law_straight : List Str := ["cords_so"]
theorem sc_law_straight : FnScope N_law_straight ["cords_so"] (defScope s_law_straight) := ⟨rfl, rfl, rfl, by decide +kernel, rfl, by decide +kernel, by decide +kernel⟩
def m_law_straight : List Slot → Tr D := fnF 1 .v (sRet (eCB dTuple (lCons (e2 dMulA (eRgL (lCons (eVar 0) lNil)) (eC (.int 2))) lNil)))
theorem ok_law_straight {f : Addr} {fd : FuncData} (F : Fun K "_law_straight" "_law_straight" s_law_straight f fd) (B : Bt K mg)  : FnG P w K mg base 1 f fd ["cords_so"] (spD K .v 1 m_law_straight) :=
  fn_ok F sc_law_straight fun cdv A outer s H E hr hgd => (have hu := hr.units; have hu1 := hu_of hr; have nd := sc_law_straight.nd; (xss_one (xs_ret (by decide) (xe_callT c_tuple (by rfl) B.b_tuple (by decide +kernel) (xlb_cons (xe_vb (xe_op o_mulA (xe_vb (xe_ov (xe_rgL1 (pe_listRg rfl (by rfl) B.b_list (prg_1 (by rfl) B.b_range (xe_vb (xe_var (pv 0)))))))) (xe_vb xe_int))) xlb_nil)))))
abbrev s_law_deed : Stmt := topS 43
abbrev N_law_deed : List Str := ["cords_so", "deed", "marks", "word", "place"]
theorem sc_law_deed : FnScope N_law_deed ["cords_so", "deed"] (defScope s_law_deed) := ⟨rfl, rfl, rfl, by decide +kernel, rfl, by decide +kernel, by decide +kernel⟩
def m_law_deed : List Slot → Tr D := fnF 5 .v (sSeq (sAsg (eVar 1) (gT 2 (gsCons (gN 3) (gsCons (gN 4) gsNil)))) (sSeq (sSetO 2 (e2 dCat (eRgL (lCons (eVar 0) lNil)) (eRgL (lCons (eVar 0) lNil)))) (sSeq (sIf (tt (e2 dEq (eVar 3) (eC (.str "cut")))) (sSetIx 2 (e2 dAddA (eVar 0) (eVar 4)) (eVar 0)) (sIf (tt (e2 dEq (eVar 3) (eC (.str "hook")))) (sSeq (sSetIx 2 (e2 dAddA (eVar 4) (eC (.int 1))) (eVar 4)) (sSeq (sSetIx 2 (e2 dAddA (eVar 0) (eVar 4)) (eVar 0)) (sSetIx 2 (e2 dAddA (e2 dAddA (eVar 0) (eVar 4)) (eC (.int 1))) (eVar 0)))) (sIf (tt (e2 dEq (eVar 3) (eC (.str "swap")))) (sSetIx2 2 (eTup (lCons (e2 dAddA (eVar 4) (eC (.int 1))) (lCons (eVar 4) lNil))) (e2 dAddA (eVar 0) (eVar 4)) (e2 dAddA (e2 dAddA (eVar 0) (eVar 4)) (eC (.int 1)))) (sSeq (sSetIx 2 (e2 dAddA (eVar 4) (eC (.int 1))) (eVar 4)) (sSeq (sSetIx 2 (e2 dAddA (eVar 0) (eVar 4)) (eVar 4)) (sSetIx 2 (e2 dAddA (e2 dAddA (eVar 0) (eVar 4)) (eC (.int 1))) (eVar 4))))))) (fun env => (sRet (eCall m_law_named (aVal (eVar 2) aNil))) (frz 2 env)))))
theorem ok_law_deed {f : Addr} {fd : FuncData} (F : Fun K "_law_deed" "_law_deed" s_law_deed f fd) (B : Bt K mg) (C_law_named : Cal P w K mg base "_law_named" 1 ["marks"] (spD K .v 1 m_law_named)) : FnG P w K mg base 2 f fd ["cords_so", "deed"] (spD K .v 2 m_law_deed) :=
  fn_ok F sc_law_deed fun cdv A outer s H E hr hgd => (have hu := hr.units; have hu1 := hu_of hr; have nd := sc_law_deed.nd; (xss_cons (xs_asg (ps_asg (xe_var (pv 1)) (xg_tup rfl (xgs_cons (xg_name (pg_name (i := 3) nd rfl (Or.inl rfl))) (xgs_cons (xg_name (pg_name (i := 4) nd rfl (Or.inl rfl))) xgs_nil))))) (xss_cons (xs_setO (i := 2) nd rfl (Or.inl rfl) (xe_op o_cat (xe_vb (xe_ov (xe_rgL1 (pe_listRg rfl (by rfl) B.b_list (prg_1 (by rfl) B.b_range (xe_vb (xe_var (pv 0)))))))) (xe_vb (xe_ov (xe_rgL1 (pe_listRg rfl (by rfl) B.b_list (prg_1 (by rfl) B.b_range (xe_vb (xe_var (pv 0)))))))))) (xss_cons (xs_if (xt_cmp (o_eq hu) (xe_vb (xe_var (pv 3))) (xe_vb xe_str) (nomark _)) (xss_one (xs_setIx (ps_asg (xe_var (pv 0)) (pg_sub (pv 2) (xe_vb (xe_op o_addA (xe_vb (xe_var (pv 0))) (xe_vb (xe_var (pv 4))))) set_list)))) (xss_one (xs_if (xt_cmp (o_eq hu) (xe_vb (xe_var (pv 3))) (xe_vb xe_str) (nomark _)) (xss_cons (xs_setIx (ps_asg (xe_var (pv 4)) (pg_sub (pv 2) (xe_vb (xe_op o_addA (xe_vb (xe_var (pv 4))) (xe_vb xe_int))) set_list))) (xss_cons (xs_setIx (ps_asg (xe_var (pv 0)) (pg_sub (pv 2) (xe_vb (xe_op o_addA (xe_vb (xe_var (pv 0))) (xe_vb (xe_var (pv 4))))) set_list))) (xss_one (xs_setIx (ps_asg (xe_var (pv 0)) (pg_sub (pv 2) (xe_vb (xe_op o_addA (xe_vb (xe_op o_addA (xe_vb (xe_var (pv 0))) (xe_vb (xe_var (pv 4))))) (xe_vb xe_int))) set_list)))))) (xss_one (xs_if (xt_cmp (o_eq hu) (xe_vb (xe_var (pv 3))) (xe_vb xe_str) (nomark _)) (xss_one (xs_setIx2 (ps_asg (xe_tup (xl_cons (xe_op o_addA (xe_vb (xe_var (pv 4))) (xe_vb xe_int)) (xl_cons (xe_var (pv 4)) xl_nil))) (pg_tup rfl (pgs_cons (pg_sub (pv 2) (xe_vb (xe_op o_addA (xe_vb (xe_var (pv 0))) (xe_vb (xe_var (pv 4))))) set_list) (pgs_cons (pg_sub (pv 2) (xe_vb (xe_op o_addA (xe_vb (xe_op o_addA (xe_vb (xe_var (pv 0))) (xe_vb (xe_var (pv 4))))) (xe_vb xe_int))) set_list) pgs_nil)))))) (xss_cons (xs_setIx (ps_asg (xe_var (pv 4)) (pg_sub (pv 2) (xe_vb (xe_op o_addA (xe_vb (xe_var (pv 4))) (xe_vb xe_int))) set_list))) (xss_cons (xs_setIx (ps_asg (xe_var (pv 4)) (pg_sub (pv 2) (xe_vb (xe_op o_addA (xe_vb (xe_var (pv 0))) (xe_vb (xe_var (pv 4))))) set_list))) (xss_one (xs_setIx (ps_asg (xe_var (pv 4)) (pg_sub (pv 2) (xe_vb (xe_op o_addA (xe_vb (xe_op o_addA (xe_vb (xe_var (pv 0))) (xe_vb (xe_var (pv 4))))) (xe_vb xe_int))) set_list))))))))))) (xss_frz 2 (xss_one (xs_ret (by decide) (xe_callC C_law_named (hr.mono (by omega)) hgd (by rfl) (xa_val (xe_var (pv 2)) xa_nil) (argN_val argN_nil)))))))))
abbrev s_law_upon : Stmt := topS 44
abbrev N_law_upon : List Str := ["cords_so", "near", "far", "marks", "at", "kept", "lost", "gone", "old", "new", "one"]
theorem sc_law_upon : FnScope N_law_upon ["cords_so", "near", "far"] (defScope s_law_upon) := ⟨rfl, rfl, rfl, by decide +kernel, rfl, by decide +kernel, by decide +kernel⟩
def m_law_upon : List Slot → Tr D := fnF 11 .v (sSeq (sSet 3 (e2 dAddA (eCompS (eVar 1) (gN 10) fYes (eVar 10) [10]) (eCompS (eVar 2) (gN 10) fYes (e2 dAddA (e2 dMul (eC (.int 2)) (eVar 0)) (eVar 10)) [10]))) (sSeq (sForR (lCons (eVar 0) lNil) (gN 4) (sSeq (sAsg (eTup (lCons (e2 dIx (eVar 3) (e2 dAddA (e2 dMul (eC (.int 2)) (eVar 0)) (eVar 4))) (lCons (e2 dIx (eVar 3) (e2 dAddA (eVar 0) (eVar 4))) lNil))) (gT 2 (gsCons (gN 8) (gsCons (gN 9) gsNil)))) (sIf (tt (e2 dNe (eVar 8) (eVar 9))) (sSet 3 (eCompS (eVar 3) (gN 10) fYes (eIf (tt (e2 dEq (eVar 10) (eVar 8))) (eVar 9) (eVar 10)) [10])) sNext))) (sSeq (sSet 5 (e2 dAddA (eSl dSlA (eVar 3) oNone (oSome (eVar 0))) (eSl dSlA (eVar 3) (oSome (e2 dMul (eC (.int 3)) (eVar 0))) oNone))) (sSeq (sSet 6 (eCompS (eSl dSlA (eVar 3) (oSome (eVar 0)) (oSome (e2 dMul (eC (.int 2)) (eVar 0)))) (gN 10) (tt (e2 (dIn true) (eVar 10) (eVar 5))) (eVar 10) [10])) (sSeq (sSet 7 (eCompR (lCons (eCB dLenA (lCons (eVar 6) lNil)) lNil) (gN 4) (tt (e2 (dIn true) (e2 dIx (eVar 6) (eVar 4)) (eSl dSlA (eVar 6) oNone (oSome (eVar 4))))) (e2 dIx (eVar 6) (eVar 4)) [4])) (sRet (eTup (lCons (eCall m_law_named (aVal (eVar 5) aNil)) (lCons (eCB dLenA (lCons (eVar 7) lNil)) lNil)))))))))
theorem ok_law_upon {f : Addr} {fd : FuncData} (F : Fun K "_law_upon" "_law_upon" s_law_upon f fd) (B : Bt K mg) (C_law_named : Cal P w K mg base "_law_named" 1 ["marks"] (spD K .v 1 m_law_named)) : FnG P w K mg base 2 f fd ["cords_so", "near", "far"] (spD K .v 3 m_law_upon) :=
  fn_ok F sc_law_upon fun cdv A outer s H E hr hgd => (have hu := hr.units; have hu1 := hu_of hr; have nd := sc_law_upon.nd; (xss_cons (xs_set (i := 3) nd rfl (Or.inl rfl) (xe_op o_addA (xe_vb (xe_ov (xe_compS (own_name 10) yes_ok (pe_lc (own := [("one", 10)]) (g := (gName 10)) rfl nd (pi_seq (xe_vb (xe_var (pv 1)))) (blkOk_by (own := [("one", 10)]) (N := N_law_upon) (sc := defScope s_law_upon) (by decide +kernel)) (fun _ _ _ _ _ => pg_name (i := 10) nd rfl (Or.inl rfl)) (fun _ _ _ _ _ => pts_nil) (fun _ _ _ _ _ => (xe_var (pv 10))))))) (xe_vb (xe_ov (xe_compS (own_name 10) yes_ok (pe_lc (own := [("one", 10)]) (g := (gName 10)) rfl nd (pi_seq (xe_vb (xe_var (pv 2)))) (blkOk_by (own := [("one", 10)]) (N := N_law_upon) (sc := defScope s_law_upon) (by decide +kernel)) (fun _ _ _ _ _ => pg_name (i := 10) nd rfl (Or.inl rfl)) (fun _ _ _ _ _ => pts_nil) (fun _ _ _ _ _ => (xe_op o_addA (xe_vb (xe_op o_mul (xe_vb xe_int) (xe_vb (xe_var (pv 0))))) (xe_vb (xe_var (pv 10))))))))))) (xss_cons (xs_forR1 (ps_for PassesOwn.never rfl (pi_range1 (by rfl) B.b_range (xlb_cons (xe_vb (xe_var (pv 0))) xlb_nil)) (xg_name (pg_name (i := 4) nd rfl (Or.inl rfl))) (xss_cons (xs_asg (ps_asg (xe_tup (xl_cons (xe_ix (xe_vb (xe_var (pv 3))) (xe_vb (xe_op o_addA (xe_vb (xe_op o_mul (xe_vb xe_int) (xe_vb (xe_var (pv 0))))) (xe_vb (xe_var (pv 4))))) (fun _ _ => rfl)) (xl_cons (xe_ix (xe_vb (xe_var (pv 3))) (xe_vb (xe_op o_addA (xe_vb (xe_var (pv 0))) (xe_vb (xe_var (pv 4))))) (fun _ _ => rfl)) xl_nil))) (xg_tup rfl (xgs_cons (xg_name (pg_name (i := 8) nd rfl (Or.inr rfl))) (xgs_cons (xg_name (pg_name (i := 9) nd rfl (Or.inr rfl))) xgs_nil))))) (xss_one (xs_if (xt_cmp (o_ne hu) (xe_vb (xe_var (pv 8))) (xe_vb (xe_var (pv 9))) (nomark _)) (xss_one (xs_setLcV (ps_setLc (i := 3) (own := [("one", 10)]) (g := (gName 10)) rfl nd rfl rfl (sw_true rfl rfl rfl (by decide +kernel)) (pi_seq (xe_vb (xe_var (pv 3)))) (blkOk_by (own := [("one", 10)]) (N := N_law_upon) (sc := defScope s_law_upon) (by decide +kernel)) (fun _ _ _ _ _ => pg_name (i := 10) nd rfl (Or.inl rfl)) (fun _ _ _ _ _ => pts_nil) (fun _ _ _ _ _ => (xe_if (xt_cmp (o_eq hu) (xe_vb (xe_var (pv 10))) (xe_vb (xe_var (pv 8))) (nomark _)) (xe_var (pv 9)) (xe_var (pv 10))))) (fun _ _ _ q => (rd_compS (own_name 10) yes_ok) _ _ _ (readOV q)))) xss_nil)))) (lenN_cons lenN_nil)) (xss_cons (xs_set (i := 5) nd rfl (Or.inr rfl) (xe_op o_addA (xe_vb (xe_slice x_slA (xe_vb (xe_var (pv 3))) xo_none (xo_some (xe_vb (xe_var (pv 0)))))) (xe_vb (xe_slice x_slA (xe_vb (xe_var (pv 3))) (xo_some (xe_vb (xe_op o_mul (xe_vb xe_int) (xe_vb (xe_var (pv 0)))))) xo_none)))) (xss_cons (xs_set (i := 6) nd rfl (Or.inr rfl) (xe_ov (xe_compS (own_name 10) (fun _ _ _ q => q) (pe_lc (own := [("one", 10)]) (g := (gName 10)) rfl nd (pi_seq (xe_vb (xe_slice x_slA (xe_vb (xe_var (pv 3))) (xo_some (xe_vb (xe_var (pv 0)))) (xo_some (xe_vb (xe_op o_mul (xe_vb xe_int) (xe_vb (xe_var (pv 0))))))))) (blkOk_by (own := [("one", 10)]) (N := N_law_upon) (sc := defScope s_law_upon) (by decide +kernel)) (fun _ _ _ _ _ => pg_name (i := 10) nd rfl (Or.inl rfl)) (fun _ _ _ _ _ => pts_one (xt_cmp o_notin (xe_vb (xe_var (pv 10))) (xe_vb (xe_var (pv 5))) (by with_unfolding_all rfl))) (fun _ _ _ _ _ => (xe_var (pv 10))))))) (xss_cons (xs_setLcV (ps_setLc (i := 7) (own := [("at", 4)]) (g := (gName 4)) rfl nd rfl rfl (sw_true rfl rfl rfl (by decide +kernel)) (pi_range1 (by rfl) B.b_range (xlb_cons (xe_vb (xe_callB c_lenA (by rfl) B.b_len (by decide +kernel) (xlb_cons (xe_vb (xe_var (pv 6))) xlb_nil))) xlb_nil)) (blkOk_by (own := [("at", 4)]) (N := N_law_upon) (sc := defScope s_law_upon) (by decide +kernel)) (fun _ _ _ _ _ => pg_name (i := 4) nd rfl (Or.inl rfl)) (fun _ _ _ _ _ => pts_one (xt_cmp o_notin (xe_vb (xe_ix (xe_vb (xe_var (pv 6))) (xe_vb (xe_var (pv 4))) (fun _ _ => rfl))) (xe_vb (xe_slice x_slA (xe_vb (xe_var (pv 6))) xo_none (xo_some (xe_vb (xe_var (pv 4)))))) (by with_unfolding_all rfl))) (fun _ _ _ _ _ => (xe_ix (xe_vb (xe_var (pv 6))) (xe_vb (xe_var (pv 4))) (fun _ _ => rfl)))) (fun _ _ _ q => (rd_compR1 (own_name 4) (fun _ _ _ q => q) (lenN_cons lenN_nil)) _ _ _ (readOV q))) (xss_one (xs_ret (by decide) (xe_tup (xl_cons (xe_callC C_law_named (hr.mono (by omega)) hgd (by rfl) (xa_val (xe_var (pv 5)) xa_nil) (argN_val argN_nil)) (xl_cons (xe_callB c_lenA (by rfl) B.b_len (by decide +kernel) (xlb_cons (xe_vb (xe_var (pv 7))) xlb_nil)) xl_nil)))))))))))
abbrev s_law_figure : Stmt := topS 45
abbrev N_law_figure : List Str := ["cords_so", "row_so", "deed", "found", "left", "more"]
theorem sc_law_figure : FnScope N_law_figure ["cords_so", "row_so"] (defScope s_law_figure) := ⟨rfl, rfl, rfl, by decide +kernel, rfl, by decide +kernel, by decide +kernel⟩
def m_law_figure : List Slot → Tr D := fnF 6 .v (sSeq (sPar false false 3 4 (eCall m_law_straight (aVal (eVar 0) aNil)) (eC (.int 0))) (sSeq (sForS (eVar 1) (gN 2) (sSeq (sAsg (eCall m_law_upon (aVal (eVar 0) (aVal (eVar 3) (aVal (eCall m_law_deed (aVal (eVar 0) (aVal (eVar 2) aNil))) aNil)))) (gT 2 (gsCons (gN 3) (gsCons (gN 5) gsNil)))) (sSet 4 (e2 dAddA (eVar 4) (eVar 5))))) (sRet (eTup (lCons (eVar 3) (lCons (eVar 4) lNil))))))
theorem ok_law_figure {f : Addr} {fd : FuncData} (F : Fun K "_law_figure" "_law_figure" s_law_figure f fd) (B : Bt K mg) (C_law_straight : Cal P w K mg base "_law_straight" 1 ["cords_so"] (spD K .v 1 m_law_straight)) (C_law_deed : Cal P w K mg base "_law_deed" 2 ["cords_so", "deed"] (spD K .v 2 m_law_deed)) (C_law_upon : Cal P w K mg base "_law_upon" 2 ["cords_so", "near", "far"] (spD K .v 3 m_law_upon)) : FnG P w K mg base 3 f fd ["cords_so", "row_so"] (spD K .v 2 m_law_figure) :=
  fn_ok F sc_law_figure fun cdv A outer s H E hr hgd => (have hu := hr.units; have hu1 := hu_of hr; have nd := sc_law_figure.nd; (xss_cons (xs_par (o1 := false) (o2 := false) (ps_par rfl nd rfl rfl (by decide) rfl rfl (pa_cons (xe_callC C_law_straight (hr.mono (by omega)) hgd (by rfl) (xa_val (xe_var (pv 0)) xa_nil) (argN_val argN_nil)) (pa_cons xe_int pa_nil)) (by rfl))) (xss_cons (xs_forS (ps_for PassesOwn.never rfl (pi_seq (xe_var (pv 1))) (xg_name (pg_name (i := 2) nd rfl (Or.inl rfl))) (xss_cons (xs_asg (ps_asg (xe_callC C_law_upon (hr.mono (by omega)) hgd (by rfl) (xa_val (xe_var (pv 0)) (xa_val (xe_var (pv 3)) (xa_val (xe_callC C_law_deed (hr.mono (by omega)) hgd (by rfl) (xa_val (xe_var (pv 0)) (xa_val (xe_var (pv 2)) xa_nil)) (argN_val (argN_val argN_nil))) xa_nil))) (argN_val (argN_val (argN_val argN_nil)))) (xg_tup rfl (xgs_cons (xg_name (pg_name (i := 3) nd rfl (Or.inl rfl))) (xgs_cons (xg_name (pg_name (i := 5) nd rfl (Or.inl rfl))) xgs_nil))))) (xss_one (xs_set (i := 4) nd rfl (Or.inl rfl) (xe_op o_addA (xe_vb (xe_var (pv 4))) (xe_vb (xe_var (pv 5))))))))) (xss_one (xs_ret (by decide) (xe_tup (xl_cons (xe_var (pv 3)) (xl_cons (xe_var (pv 4)) xl_nil))))))))
abbrev s_law_deeds : Stmt := topS 46
abbrev N_law_deeds : List Str := ["cords_so", "family_so", "found", "word", "place"]
theorem sc_law_deeds : FnScope N_law_deeds ["cords_so", "family_so"] (defScope s_law_deeds) := ⟨rfl, rfl, rfl, by decide +kernel, rfl, by decide +kernel, by decide +kernel⟩
def m_law_deeds : List Slot → Tr D := fnF 5 .v (sSeq (sSet 2 (eLst lNil)) (sSeq (sForS (eVar 1) (gN 3) (sSet 2 (e2 dAddA (eVar 2) (eCompR (lCons (e2 dSub (eVar 0) (eCB dInt1 (lCons (e2 dNe (eVar 3) (eC (.str "cut"))) lNil))) lNil) (gN 4) fYes (eTup (lCons (eVar 3) (lCons (eVar 4) lNil))) [4])))) (sRet (eVar 2))))
theorem ok_law_deeds {f : Addr} {fd : FuncData} (F : Fun K "_law_deeds" "_law_deeds" s_law_deeds f fd) (B : Bt K mg)  : FnG P w K mg base 1 f fd ["cords_so", "family_so"] (spD K .v 2 m_law_deeds) :=
  fn_ok F sc_law_deeds fun cdv A outer s H E hr hgd => (have hu := hr.units; have hu1 := hu_of hr; have nd := sc_law_deeds.nd; (xss_cons (xs_set (i := 2) nd rfl (Or.inl rfl) (xe_ov (xe_lst xl_nil))) (xss_cons (xs_forS (ps_for PassesOwn.never rfl (pi_seq (xe_var (pv 1))) (xg_name (pg_name (i := 3) nd rfl (Or.inr rfl))) (xss_one (xs_set (i := 2) nd rfl (Or.inl rfl) (xe_op o_addA (xe_vb (xe_var (pv 2))) (xe_vb (xe_ov (xe_compR1 (own_name 4) yes_ok (lenN_cons lenN_nil) (pe_lc (own := [("place", 4)]) (g := (gName 4)) rfl nd (pi_range1 (by rfl) B.b_range (xlb_cons (xe_vb (xe_op o_sub (xe_vb (xe_var (pv 0))) (xe_vb (xe_callT c_int (by rfl) B.b_int (by decide +kernel) (xlb_cons (xe_vb (xe_cmp (o_ne hu) (xe_vb (xe_var (pv 3))) (xe_vb xe_str) (nomark _))) xlb_nil))))) xlb_nil)) (blkOk_by (own := [("place", 4)]) (N := N_law_deeds) (sc := defScope s_law_deeds) (by decide +kernel)) (fun _ _ _ _ _ => pg_name (i := 4) nd rfl (Or.inl rfl)) (fun _ _ _ _ _ => pts_nil) (fun _ _ _ _ _ => (xe_tup (xl_cons (xe_var (pv 3)) (xl_cons (xe_var (pv 4)) xl_nil))))))))))))) (xss_one (xs_ret (by decide) (xe_var (pv 2)))))))
abbrev s_law_row : Stmt := topS 47
abbrev N_law_row : List Str := ["m", "cords_so", "family_so", "most", "some", "turn"]
theorem sc_law_row : FnScope N_law_row ["m", "cords_so", "family_so", "most"] (defScope s_law_row) := ⟨rfl, rfl, rfl, by decide +kernel, rfl, by decide +kernel, by decide +kernel⟩
def m_law_row : List Slot → Tr D := fnF 6 .v (sSeq (sSet 4 (eCall m_law_deeds (aVal (eVar 1) (aVal (eVar 2) aNil)))) (sSeq (sIf (tt (e2 dEq (eVar 4) (eLst lNil))) (sRet (eTup lNil)) sNext) (sRet (eCB dTuple (lCons (eCompR (lCons (eCall m_law_draw (aOrc 0 (aVal (e2 dAddA (eVar 3) (eC (.int 1))) aNil))) lNil) (gN 5) fYes (eCall m_law_of (aOrc 0 (aVal (eVar 4) aNil))) [5]) lNil)))))
theorem ok_law_row {f : Addr} {fd : FuncData} (F : Fun K "_law_row" "_law_row" s_law_row f fd) (B : Bt K mg) (C_law_deeds : Cal P w K mg base "_law_deeds" 1 ["cords_so", "family_so"] (spD K .v 2 m_law_deeds)) (C_law_draw : Cal P w K mg base "_law_draw" 2 ["m", "limit"] (spD K .v 2 m_law_draw)) (C_law_of : Cal P w K mg base "_law_of" 3 ["m", "some"] (spD K .v 2 m_law_of)) : FnG P w K mg base 4 f fd ["m", "cords_so", "family_so", "most"] (spD K .v 4 m_law_row) :=
  fn_ok F sc_law_row fun cdv A outer s H E hr hgd => (have hu := hr.units; have hu1 := hu_of hr; have nd := sc_law_row.nd; (xss_cons (xs_set (i := 4) nd rfl (Or.inr rfl) (xe_callC C_law_deeds (hr.mono (by omega)) hgd (by rfl) (xa_val (xe_var (pv 1)) (xa_val (xe_var (pv 2)) xa_nil)) (argN_val (argN_val argN_nil)))) (xss_cons (xs_if (xt_cmp (o_eq hu) (xe_vb (xe_var (pv 4))) (xe_vb (xe_ov (xe_lst xl_nil))) (nomark _)) (xss_one (xs_ret (by decide) (xe_tup xl_nil))) xss_nil) (xss_one (xs_ret (by decide) (xe_callT c_tuple (by rfl) B.b_tuple (by decide +kernel) (xlb_cons (xe_vb (xe_ov (xe_compR1 (own_name 5) yes_ok (lenN_cons lenN_nil) (pe_lc (own := [("turn", 5)]) (g := (gName 5)) rfl nd (pi_range1 (by rfl) B.b_range (xlb_cons (xe_vb (xe_callC C_law_draw (hr.mono (by omega)) hgd (by rfl) (xa_orc (pv 0) (xa_val (xe_op o_addA (xe_vb (xe_var (pv 3))) (xe_vb xe_int)) xa_nil)) (argN_orc (argN_val argN_nil)))) xlb_nil)) (blkOk_by (own := [("turn", 5)]) (N := N_law_row) (sc := defScope s_law_row) (by decide +kernel)) (fun _ _ _ _ _ => pg_name (i := 5) nd rfl (Or.inl rfl)) (fun _ _ _ _ _ => pts_nil) (fun _ _ _ _ _ => (xe_callC C_law_of (hr.mono (by omega)) hgd (by rfl) (xa_orc (pv 0) (xa_val (xe_var (pv 4)) xa_nil)) (argN_orc (argN_val argN_nil)))))))) xlb_nil)))))))
abbrev s_law_lots : Stmt := topS 48
abbrev N_law_lots : List Str := ["cords_so", "items_so", "whole", "item"]
theorem sc_law_lots : FnScope N_law_lots ["cords_so", "items_so"] (defScope s_law_lots) := ⟨rfl, rfl, rfl, by decide +kernel, rfl, by decide +kernel, by decide +kernel⟩
def m_law_lots : List Slot → Tr D := fnF 4 .o (sSeq (sSet 2 (eCB dTuple (lCons (eCall m_law_deeds (aVal (eVar 0) (aVal (eTup (lCons (eC (.str "cut")) (lCons (eC (.str "hook")) (lCons (eC (.str "join")) (lCons (eC (.str "swap")) lNil))))) aNil))) lNil))) (sRet (eCompS (eVar 1) (gN 3) fYes (eIf (tt (e2 dIsN (eVar 3) (eC .none))) (eVar 2) (eVar 3)) [3])))
theorem ok_law_lots {f : Addr} {fd : FuncData} (F : Fun K "_law_lots" "_law_lots" s_law_lots f fd) (B : Bt K mg) (C_law_deeds : Cal P w K mg base "_law_deeds" 1 ["cords_so", "family_so"] (spD K .v 2 m_law_deeds)) : FnG P w K mg base 2 f fd ["cords_so", "items_so"] (spD K .o 2 m_law_lots) :=
  fn_ok F sc_law_lots fun cdv A outer s H E hr hgd => (have hu := hr.units; have hu1 := hu_of hr; have nd := sc_law_lots.nd; (xss_cons (xs_set (i := 2) nd rfl (Or.inr rfl) (xe_callT c_tuple (by rfl) B.b_tuple (by decide +kernel) (xlb_cons (xe_vb (xe_callC C_law_deeds (hr.mono (by omega)) hgd (by rfl) (xa_val (xe_var (pv 0)) (xa_val (xe_tup (xl_cons xe_str (xl_cons xe_str (xl_cons xe_str (xl_cons xe_str xl_nil))))) xa_nil)) (argN_val (argN_val argN_nil)))) xlb_nil))) (xss_one (xs_ret (by decide) (xe_compS (own_name 3) yes_ok (pe_lc (own := [("item", 3)]) (g := (gName 3)) rfl nd (pi_seq (xe_vb (xe_var (pv 1)))) (blkOk_by (own := [("item", 3)]) (N := N_law_lots) (sc := defScope s_law_lots) (by decide +kernel)) (fun _ _ _ _ _ => pg_name (i := 3) nd rfl (Or.inl rfl)) (fun _ _ _ _ _ => pts_nil) (fun _ _ _ _ _ => (xe_if (xt_cmp o_isN (xe_vb (xe_var (pv 3))) (xe_vb xe_non) (nomark _)) (xe_var (pv 2)) (xe_var (pv 3))))))))))
abbrev s_law_items : Stmt := topS 49
abbrev N_law_items : List Str := ["m", "cords_so", "most", "top", "turn", "whole", "found", "size", "lot", "again", "at"]
theorem sc_law_items : FnScope N_law_items ["m", "cords_so", "most", "top"] (defScope s_law_items) := ⟨rfl, rfl, rfl, by decide +kernel, rfl, by decide +kernel, by decide +kernel⟩
def m_law_items : List Slot → Tr D := fnF 11 .v (sSeq (sPar3 false true false 5 6 7 (eCall m_law_deeds (aVal (eVar 1) (aVal (eTup (lCons (eC (.str "cut")) (lCons (eC (.str "hook")) (lCons (eC (.str "join")) (lCons (eC (.str "swap")) lNil))))) aNil))) (eLst lNil) (eC (.int 1))) (sSeq (sForR (lCons (eCall m_law_draw (aOrc 0 (aVal (e2 dAddA (eVar 2) (eC (.int 1))) aNil))) lNil) (gN 4) (sSeq (sSet 8 (eCompR (lCons (e2 dAddA (eC (.int 1)) (eCall m_law_draw (aOrc 0 (aVal (eC (.int 4)) aNil)))) lNil) (gN 9) fYes (eCall m_law_of (aOrc 0 (aVal (eVar 5) aNil))) [9])) (sSeq (sSet 8 (eCB dSortA (lCons (eCompR (lCons (eCB dLenA (lCons (eVar 8) lNil)) lNil) (gN 10) (tt (e2 (dInA true) (e2 dIx (eVar 8) (eVar 10)) (eSl dSlA (eVar 8) oNone (oSome (eVar 10))))) (e2 dIx (eVar 8) (eVar 10)) [10]) lNil))) (sSeq (sIf (tt (e2 dEq (eCall m_law_draw (aOrc 0 (aVal (eC (.int 5)) aNil))) (eC (.int 0)))) (sSet 8 (eVar 5)) sNext) (sSeq (sIf (tt (e2 dGt (e2 dMul (eVar 7) (eCB dLenA (lCons (eVar 8) lNil))) (eVar 3))) (sSet 8 (eSl dSlA (eVar 8) oNone (oSome (eC (.int 1))))) sNext) (sSeq (sSet 7 (e2 dMul (eVar 7) (eCB dLenA (lCons (eVar 8) lNil)))) (sApp 6 (eIf (bAnd (tt (e2 dEq (eCB dLenA (lCons (eVar 8) lNil)) (eCB dLenA (lCons (eVar 5) lNil)))) (tt (e2 dEq (eCall m_law_draw (aOrc 0 (aVal (eC (.int 2)) aNil))) (eC (.int 0))))) (eC .none) (eCB dTuple (lCons (eVar 8) lNil)))))))))) (sRet (eCB dTuple (lCons (eVarB 6) lNil)))))
theorem ok_law_items {f : Addr} {fd : FuncData} (F : Fun K "_law_items" "_law_items" s_law_items f fd) (B : Bt K mg) (C_law_deeds : Cal P w K mg base "_law_deeds" 1 ["cords_so", "family_so"] (spD K .v 2 m_law_deeds)) (C_law_draw : Cal P w K mg base "_law_draw" 2 ["m", "limit"] (spD K .v 2 m_law_draw)) (C_law_of : Cal P w K mg base "_law_of" 3 ["m", "some"] (spD K .v 2 m_law_of)) : FnG P w K mg base 4 f fd ["m", "cords_so", "most", "top"] (spD K .v 4 m_law_items) :=
  fn_ok F sc_law_items fun cdv A outer s H E hr hgd => (have hu := hr.units; have hu1 := hu_of hr; have nd := sc_law_items.nd; (xss_cons (xs_par3T (o1 := false) (o2 := true) (o3 := false) (ps_asg (pe_tup (pa_cons (xe_callC C_law_deeds (hr.mono (by omega)) hgd (by rfl) (xa_val (xe_var (pv 1)) (xa_val (xe_tup (xl_cons xe_str (xl_cons xe_str (xl_cons xe_str (xl_cons xe_str xl_nil))))) xa_nil)) (argN_val (argN_val argN_nil))) (pa_cons (xe_lst xl_nil) (pa_cons xe_int pa_nil)))) (pg_tup rfl (pgs_cons (pg_name (i := 5) nd rfl (Or.inr rfl)) (pgs_cons (pg_name (i := 6) nd rfl (Or.inl rfl)) (pgs_cons (pg_name (i := 7) nd rfl (Or.inl rfl)) pgs_nil)))))) (xss_cons (xs_forR1 (ps_for PassesOwn.never rfl (pi_range1 (by rfl) B.b_range (xlb_cons (xe_vb (xe_callC C_law_draw (hr.mono (by omega)) hgd (by rfl) (xa_orc (pv 0) (xa_val (xe_op o_addA (xe_vb (xe_var (pv 2))) (xe_vb xe_int)) xa_nil)) (argN_orc (argN_val argN_nil)))) xlb_nil)) (xg_name (pg_name (i := 4) nd rfl (Or.inl rfl))) (xss_cons (xs_set (i := 8) nd rfl (Or.inr rfl) (xe_ov (xe_compR1 (own_name 9) yes_ok (lenN_cons lenN_nil) (pe_lc (own := [("again", 9)]) (g := (gName 9)) rfl nd (pi_range1 (by rfl) B.b_range (xlb_cons (xe_vb (xe_op o_addA (xe_vb xe_int) (xe_vb (xe_callC C_law_draw (hr.mono (by omega)) hgd (by rfl) (xa_orc (pv 0) (xa_val xe_int xa_nil)) (argN_orc (argN_val argN_nil)))))) xlb_nil)) (blkOk_by (own := [("again", 9)]) (N := N_law_items) (sc := defScope s_law_items) (by decide +kernel)) (fun _ _ _ _ _ => pg_name (i := 9) nd rfl (Or.inl rfl)) (fun _ _ _ _ _ => pts_nil) (fun _ _ _ _ _ => (xe_callC C_law_of (hr.mono (by omega)) hgd (by rfl) (xa_orc (pv 0) (xa_val (xe_var (pv 5)) xa_nil)) (argN_orc (argN_val argN_nil)))))))) (xss_cons (xs_set (i := 8) nd rfl (Or.inr rfl) (xe_ov (xe_callB (c_sortA hu) (by rfl) B.b_sorted (by decide +kernel) (xlb_cons (xe_vb (xe_ov (xe_compR1 (own_name 10) (fun _ _ _ q => q) (lenN_cons lenN_nil) (pe_lc (own := [("at", 10)]) (g := (gName 10)) rfl nd (pi_range1 (by rfl) B.b_range (xlb_cons (xe_vb (xe_callB c_lenA (by rfl) B.b_len (by decide +kernel) (xlb_cons (xe_vb (xe_var (pv 8))) xlb_nil))) xlb_nil)) (blkOk_by (own := [("at", 10)]) (N := N_law_items) (sc := defScope s_law_items) (by decide +kernel)) (fun _ _ _ _ _ => pg_name (i := 10) nd rfl (Or.inl rfl)) (fun _ _ _ _ _ => pts_one (xt_cmp (o_notA0 hu) (xe_vb (xe_ix (xe_vb (xe_var (pv 8))) (xe_vb (xe_var (pv 10))) (fun _ _ => rfl))) (xe_vb (xe_slice x_slA (xe_vb (xe_var (pv 8))) xo_none (xo_some (xe_vb (xe_var (pv 10)))))) (by with_unfolding_all rfl))) (fun _ _ _ _ _ => (xe_ix (xe_vb (xe_var (pv 8))) (xe_vb (xe_var (pv 10))) (fun _ _ => rfl))))))) xlb_nil)))) (xss_cons (xs_if (xt_cmp (o_eq hu) (xe_vb (xe_callC C_law_draw (hr.mono (by omega)) hgd (by rfl) (xa_orc (pv 0) (xa_val xe_int xa_nil)) (argN_orc (argN_val argN_nil)))) (xe_vb xe_int) (nomark _)) (xss_one (xs_set (i := 8) nd rfl (Or.inr rfl) (xe_var (pv 5)))) xss_nil) (xss_cons (xs_if (xt_cmp o_gt (xe_vb (xe_op o_mul (xe_vb (xe_var (pv 7))) (xe_vb (xe_callB c_lenA (by rfl) B.b_len (by decide +kernel) (xlb_cons (xe_vb (xe_var (pv 8))) xlb_nil))))) (xe_vb (xe_var (pv 3))) (nomark _)) (xss_one (xs_set (i := 8) nd rfl (Or.inr rfl) (xe_slice x_slA (xe_vb (xe_var (pv 8))) xo_none (xo_some (xe_vb xe_int))))) xss_nil) (xss_cons (xs_set (i := 7) nd rfl (Or.inl rfl) (xe_op o_mul (xe_vb (xe_var (pv 7))) (xe_vb (xe_callB c_lenA (by rfl) B.b_len (by decide +kernel) (xlb_cons (xe_vb (xe_var (pv 8))) xlb_nil))))) (xss_one (xs_app (ps_expr (pe_bm PySem.F.plainAttrs_list PySem.F.slot_list_append PySem.F.type_list_append mt_append (pv 6) (pa_cons (xe_if (PW.pt (xw_and (xt_cmp (o_eq hu) (xe_vb (xe_callB c_lenA (by rfl) B.b_len (by decide +kernel) (xlb_cons (xe_vb (xe_var (pv 8))) xlb_nil))) (xe_vb (xe_callB c_lenA (by rfl) B.b_len (by decide +kernel) (xlb_cons (xe_vb (xe_var (pv 5))) xlb_nil))) (nomark _)) (xw_and1 (xt_cmp (o_eq hu) (xe_vb (xe_callC C_law_draw (hr.mono (by omega)) hgd (by rfl) (xa_orc (pv 0) (xa_val xe_int xa_nil)) (argN_orc (argN_val argN_nil)))) (xe_vb xe_int) (nomark _))))) xe_non (xe_callT c_tuple (by rfl) B.b_tuple (by decide +kernel) (xlb_cons (xe_vb (xe_var (pv 8))) xlb_nil))) pa_nil))))))))))) (lenN_cons lenN_nil)) (xss_one (xs_ret (by decide) (xe_callT c_tuple (by rfl) B.b_tuple (by decide +kernel) (xlb_cons (xe_varB (pv 6)) xlb_nil)))))))
abbrev s_law_paths : Stmt := topS 50
abbrev N_law_paths : List Str := ["cords_so", "items_so", "found", "lot", "some", "later", "row_so", "line", "left", "deed", "moved", "then", "more"]
theorem sc_law_paths : FnScope N_law_paths ["cords_so", "items_so"] (defScope s_law_paths) := ⟨rfl, rfl, rfl, by decide +kernel, rfl, by decide +kernel, by decide +kernel⟩
def m_law_paths : List Slot → Tr D := fnF 13 .v (sSeq (sSet 2 (eLst (lCons (eTup (lCons (eTup lNil) (lCons (eTup (lCons (eCall m_law_straight (aVal (eVar 0) aNil)) lNil)) (lCons (eC (.int 0)) lNil)))) lNil))) (sSeq (sForS (eCall m_law_lots (aVal (eVar 0) (aVal (eVar 1) aNil))) (gN 3) (sSeq (sPar false true 4 5 (eCompS (eVar 3) (gN 9) fYes (eTup (lCons (eVar 9) (lCons (eCall m_law_deed (aVal (eVar 0) (aVal (eVar 9) aNil))) lNil))) [9]) (eLst lNil)) (sSeq (sForS (eVar 2) (gT 3 (gsCons (gN 6) (gsCons (gN 7) (gsCons (gN 8) gsNil)))) (sForS (eVar 4) (gT 2 (gsCons (gN 9) (gsCons (gN 10) gsNil))) (sSeq (sAsg (eCall m_law_upon (aVal (eVar 0) (aVal (e2 dIx (eVar 7) (eNeg (eC (.int 1)))) (aVal (eVar 10) aNil)))) (gT 2 (gsCons (gN 11) (gsCons (gN 12) gsNil)))) (sApp 5 (eTup (lCons (e2 dAddA (eVar 6) (eTup (lCons (eVar 9) lNil))) (lCons (e2 dAddA (eVar 7) (eTup (lCons (eVar 11) lNil))) (lCons (e2 dAddA (eVar 8) (eVar 12)) lNil)))))))) (fun env => (sSet 2 (eVar 5)) (frz 5 env))))) (sRet (eVar 2))))
theorem ok_law_paths {f : Addr} {fd : FuncData} (F : Fun K "_law_paths" "_law_paths" s_law_paths f fd) (B : Bt K mg) (C_law_straight : Cal P w K mg base "_law_straight" 1 ["cords_so"] (spD K .v 1 m_law_straight)) (C_law_lots : Cal P w K mg base "_law_lots" 2 ["cords_so", "items_so"] (spD K .o 2 m_law_lots)) (C_law_deed : Cal P w K mg base "_law_deed" 2 ["cords_so", "deed"] (spD K .v 2 m_law_deed)) (C_law_upon : Cal P w K mg base "_law_upon" 2 ["cords_so", "near", "far"] (spD K .v 3 m_law_upon)) : FnG P w K mg base 3 f fd ["cords_so", "items_so"] (spD K .v 2 m_law_paths) :=
  fn_ok F sc_law_paths fun cdv A outer s H E hr hgd => (have hu := hr.units; have hu1 := hu_of hr; have nd := sc_law_paths.nd; (xss_cons (xs_set (i := 2) nd rfl (Or.inl rfl) (xe_ov (xe_lst (xl_cons (xe_tup (xl_cons (xe_tup xl_nil) (xl_cons (xe_tup (xl_cons (xe_callC C_law_straight (hr.mono (by omega)) hgd (by rfl) (xa_val (xe_var (pv 0)) xa_nil) (argN_val argN_nil)) xl_nil)) (xl_cons xe_int xl_nil)))) xl_nil)))) (xss_cons (xs_forS (ps_for PassesOwn.never rfl (pi_seq (xe_ov (xe_callC C_law_lots (hr.mono (by omega)) hgd (by rfl) (xa_val (xe_var (pv 0)) (xa_val (xe_var (pv 1)) xa_nil)) (argN_val (argN_val argN_nil))))) (xg_name (pg_name (i := 3) nd rfl (Or.inl rfl))) (xss_cons (xs_par (o1 := false) (o2 := true) (ps_par rfl nd rfl rfl (by decide) rfl rfl (pa_cons (xe_ov (xe_compS (own_name 9) yes_ok (pe_lc (own := [("deed", 9)]) (g := (gName 9)) rfl nd (pi_seq (xe_vb (xe_var (pv 3)))) (blkOk_by (own := [("deed", 9)]) (N := N_law_paths) (sc := defScope s_law_paths) (by decide +kernel)) (fun _ _ _ _ _ => pg_name (i := 9) nd rfl (Or.inl rfl)) (fun _ _ _ _ _ => pts_nil) (fun _ _ _ _ _ => (xe_tup (xl_cons (xe_var (pv 9)) (xl_cons (xe_callC C_law_deed (hr.mono (by omega)) hgd (by rfl) (xa_val (xe_var (pv 0)) (xa_val (xe_var (pv 9)) xa_nil)) (argN_val (argN_val argN_nil))) xl_nil))))))) (pa_cons (xe_lst xl_nil) pa_nil)) (by rfl))) (xss_cons (xs_forS (ps_for PassesOwn.never rfl (pi_seq (xe_var (pv 2))) (xg_tup rfl (xgs_cons (xg_name (pg_name (i := 6) nd rfl (Or.inl rfl))) (xgs_cons (xg_name (pg_name (i := 7) nd rfl (Or.inl rfl))) (xgs_cons (xg_name (pg_name (i := 8) nd rfl (Or.inl rfl))) xgs_nil)))) (xss_one (xs_forS (ps_for PassesOwn.never rfl (pi_seq (xe_var (pv 4))) (xg_tup rfl (xgs_cons (xg_name (pg_name (i := 9) nd rfl (Or.inl rfl))) (xgs_cons (xg_name (pg_name (i := 10) nd rfl (Or.inl rfl))) xgs_nil))) (xss_cons (xs_asg (ps_asg (xe_callC C_law_upon (hr.mono (by omega)) hgd (by rfl) (xa_val (xe_var (pv 0)) (xa_val (xe_ix (xe_vb (xe_var (pv 7))) (xe_vb (xe_neg (pe_un un_neg (xe_vb xe_int)))) (fun _ _ => rfl)) (xa_val (xe_var (pv 10)) xa_nil))) (argN_val (argN_val (argN_val argN_nil)))) (xg_tup rfl (xgs_cons (xg_name (pg_name (i := 11) nd rfl (Or.inl rfl))) (xgs_cons (xg_name (pg_name (i := 12) nd rfl (Or.inl rfl))) xgs_nil))))) (xss_one (xs_app (ps_expr (pe_bm PySem.F.plainAttrs_list PySem.F.slot_list_append PySem.F.type_list_append mt_append (pv 5) (pa_cons (xe_tup (xl_cons (xe_op o_addA (xe_vb (xe_var (pv 6))) (xe_vb (xe_tup (xl_cons (xe_var (pv 9)) xl_nil)))) (xl_cons (xe_op o_addA (xe_vb (xe_var (pv 7))) (xe_vb (xe_tup (xl_cons (xe_var (pv 11)) xl_nil)))) (xl_cons (xe_op o_addA (xe_vb (xe_var (pv 8))) (xe_vb (xe_var (pv 12)))) xl_nil)))) pa_nil))))))))))) (xss_frz 5 (xss_one (xs_set (i := 2) nd rfl (Or.inl rfl) (xe_var (pv 5))))))))) (xss_one (xs_ret (by decide) (xe_var (pv 2)))))))
abbrev s_law_all_right : Stmt := topS 51
abbrev N_law_all_right : List Str := ["m", "cords_so", "items_so", "rows_so", "told", "at", "odd", "one"]
theorem sc_law_all_right : FnScope N_law_all_right ["m", "cords_so", "items_so"] (defScope s_law_all_right) := ⟨rfl, rfl, rfl, by decide +kernel, rfl, by decide +kernel, by decide +kernel⟩
def m_law_all_right : List Slot → Tr D := fnF 8 .v (sSeq (sSet 3 (eCompS (eCall m_law_paths (aVal (eVar 1) (aVal (eVar 2) aNil))) (gN 7) fYes (e2 dIx (eVar 7) (eC (.int 0))) [7])) (sSeq (sIf (bNot (tt (eCall m_law_like (aVal (eCompR (lCons (eCB dLenA (lCons (eVar 3) lNil)) lNil) (gN 5) fYes (eCall m_filling_at (aVal (eVar 1) (aVal (eVar 2) (aVal (eVar 5) aNil)))) [5]) (aVal (eVar 3) aNil))))) (sRet (eC (.bool false))) sNext) (sSeq (sSetO 4 (eCompS (eVar 3) (gN 7) fYes (eCall m_number_of_filling (aVal (eVar 1) (aVal (eVar 2) (aVal (eVar 7) aNil)))) [7])) (fun env => (sSeq (sIf (bOr (bNot (tt (eCall m_law_like (aVal (eVar 4) (aVal (eRgL (lCons (eCB dLenA (lCons (eVar 3) lNil)) lNil)) aNil))))) (tt (e2 dNe (eVar 3) (eCB dSortB (lCons (eVar 3) lNil))))) (sRet (eC (.bool false))) sNext) (sSeq (sSet 5 (eCall m_law_draw (aOrc 0 (aVal (eCB dLenA (lCons (eVar 3) lNil)) aNil)))) (sSeq (sSetO 4 (eLst (lCons (eCall m_many_fillings (aVal (eVar 1) (aVal (eVar 2) aNil))) (lCons (eCall m_many_fillings (aReo 2 [1, 0] (aVal (eVar 2) (aVal (eVar 1) aNil)))) lNil)))) (sSeq (sApp 4 (eCall m_filling_at (aReo 3 [2, 1, 0] (aVal (eVar 5) (aVal (eVar 2) (aVal (eVar 1) aNil)))))) (sSeq (sApp 4 (eCall m_number_of_filling (aReo 3 [2, 1, 0] (aVal (e2 dIx (eVar 3) (eVar 5)) (aVal (eVar 2) (aVal (eVar 1) aNil)))))) (sSeq (sSetO 4 (e2 dCat (eVarB 4) (eLst (lCons (eCall m_does_fill (aVal (eVar 1) (aVal (eVar 2) (aVal (e2 dIx (eVar 3) (eVar 5)) aNil)))) (lCons (eCall m_need_gapped (aVal (eVar 1) (aVal (eVar 2) aNil))) lNil))))) (fun env => (sSeq (sIf (bNot (tt (eCall m_law_like (aVal (eVar 4) (aVal (e2 dAddA (e2 dRep (eLst (lCons (eCB dLenA (lCons (eVar 3) lNil)) lNil)) (eC (.int 2))) (eLst (lCons (e2 dIx (eVar 3) (eVar 5)) (lCons (eVar 5) (lCons (eC (.bool true)) (lCons (eVar 2) lNil)))))) aNil))))) (sRet (eC (.bool false))) sNext) (sSeq (sSet 6 (eCall m_law_row (aOrc 0 (aVal (eVar 1) (aVal (eTup (lCons (eC (.str "cut")) (lCons (eC (.str "hook")) (lCons (eC (.str "join")) (lCons (eC (.str "swap")) lNil))))) (aVal (e2 dAddA (eCB dLenA (lCons (eVar 2) lNil)) (eC (.int 1))) aNil)))))) (sSeq (sSetO 4 (eLst (lCons (eCall m_does_fill (aReo 3 [2, 1, 0] (aVal (eVar 6) (aVal (eVar 2) (aVal (eVar 1) aNil))))) (lCons (eCall m_number_of_filling (aVal (eVar 1) (aVal (eVar 2) (aVal (eVar 6) aNil)))) lNil)))) (fun env => (sRet (eCall m_law_like (aVal (eVar 4) (aVal (eLst (lCons (e2 (dInA false) (eVar 6) (eVar 3)) (lCons (eIf (tt (e2 (dInA false) (eVar 6) (eVar 3))) (eIdxA (eVar 3) (eVar 6)) (eC .none)) lNil))) aNil)))) (frz 4 env))))) (frz 4 env)))))))) (frz 4 env)))))
theorem ok_law_all_right {f : Addr} {fd : FuncData} (F : Fun K "_law_all_right" "_law_all_right" s_law_all_right f fd) (B : Bt K mg) (C_law_paths : Cal P w K mg base "_law_paths" 3 ["cords_so", "items_so"] (spD K .v 2 m_law_paths)) (C_filling_at : Cal P w K mg base "filling_at" 7 ["cords", "gapped", "number"] (spD K .v 3 m_filling_at)) (C_law_like : Cal P w K mg base "_law_like" 1 ["got", "due"] (spD K .v 2 m_law_like)) (C_number_of_filling : Cal P w K mg base "number_of_filling" 7 ["cords", "gapped", "row"] (spD K .v 3 m_number_of_filling)) (C_law_draw : Cal P w K mg base "_law_draw" 2 ["m", "limit"] (spD K .v 2 m_law_draw)) (C_many_fillings : Cal P w K mg base "many_fillings" 6 ["cords", "gapped"] (spD K .v 2 m_many_fillings)) (C_need_gapped : Cal P w K mg base "need_gapped" 6 ["cords", "gapped"] (spD K .v 2 m_need_gapped)) (C_does_fill : Cal P w K mg base "does_fill" 6 ["cords", "gapped", "row"] (spD K .v 3 m_does_fill)) (C_law_row : Cal P w K mg base "_law_row" 4 ["m", "cords_so", "family_so", "most"] (spD K .v 4 m_law_row)) (P_many_fillings_0 : CalK P w K mg base "many_fillings" 6 ["cords", "gapped"] (reo 2 [1, 0] .none) (reo 2 [1, 0] .non) (spD K .v 2 m_many_fillings) ["gapped", "cords"]) (P_filling_at_0 : CalK P w K mg base "filling_at" 7 ["cords", "gapped", "number"] (reo 3 [2, 1, 0] .none) (reo 3 [2, 1, 0] .non) (spD K .v 3 m_filling_at) ["number", "gapped", "cords"]) (P_number_of_filling_0 : CalK P w K mg base "number_of_filling" 7 ["cords", "gapped", "row"] (reo 3 [2, 1, 0] .none) (reo 3 [2, 1, 0] .non) (spD K .v 3 m_number_of_filling) ["row", "gapped", "cords"]) (P_does_fill_0 : CalK P w K mg base "does_fill" 6 ["cords", "gapped", "row"] (reo 3 [2, 1, 0] .none) (reo 3 [2, 1, 0] .non) (spD K .v 3 m_does_fill) ["row", "gapped", "cords"]) : FnG P w K mg base 8 f fd ["m", "cords_so", "items_so"] (spD K .v 3 m_law_all_right) :=
  fn_ok F sc_law_all_right fun cdv A outer s H E hr hgd => (have hu := hr.units; have hu1 := hu_of hr; have nd := sc_law_all_right.nd; (xss_cons (xs_setLcV (ps_setLc (i := 3) (own := [("one", 7)]) (g := (gName 7)) rfl nd rfl rfl (sw_true rfl rfl rfl (by decide +kernel)) (pi_seq (xe_vb (xe_callC C_law_paths (hr.mono (by omega)) hgd (by rfl) (xa_val (xe_var (pv 1)) (xa_val (xe_var (pv 2)) xa_nil)) (argN_val (argN_val argN_nil))))) (blkOk_by (own := [("one", 7)]) (N := N_law_all_right) (sc := defScope s_law_all_right) (by decide +kernel)) (fun _ _ _ _ _ => pg_name (i := 7) nd rfl (Or.inl rfl)) (fun _ _ _ _ _ => pts_nil) (fun _ _ _ _ _ => (xe_ix (xe_vb (xe_var (pv 7))) (xe_vb xe_int) (fun _ _ => rfl)))) (fun _ _ _ q => (rd_compS (own_name 7) yes_ok) _ _ _ (readOV q))) (xss_cons (xs_if (xt_not (xt_val (xe_vb (xe_callC C_law_like (hr.mono (by omega)) hgd (by rfl) (xa_val (xe_ov (xe_compR1 (own_name 5) yes_ok (lenN_cons lenN_nil) (pe_lc (own := [("at", 5)]) (g := (gName 5)) rfl nd (pi_range1 (by rfl) B.b_range (xlb_cons (xe_vb (xe_callB c_lenA (by rfl) B.b_len (by decide +kernel) (xlb_cons (xe_vb (xe_var (pv 3))) xlb_nil))) xlb_nil)) (blkOk_by (own := [("at", 5)]) (N := N_law_all_right) (sc := defScope s_law_all_right) (by decide +kernel)) (fun _ _ _ _ _ => pg_name (i := 5) nd rfl (Or.inl rfl)) (fun _ _ _ _ _ => pts_nil) (fun _ _ _ _ _ => (xe_callC C_filling_at (hr.mono (by omega)) hgd (by rfl) (xa_val (xe_var (pv 1)) (xa_val (xe_var (pv 2)) (xa_val (xe_var (pv 5)) xa_nil))) (argN_val (argN_val (argN_val argN_nil)))))))) (xa_val (xe_var (pv 3)) xa_nil)) (argN_val (argN_val argN_nil)))))) (xss_one (xs_ret (by decide) xe_bl)) xss_nil) (xss_cons (xs_setLc (ps_setLc (i := 4) (own := [("one", 7)]) (g := (gName 7)) rfl nd rfl rfl (sw_true rfl rfl rfl (by decide +kernel)) (pi_seq (xe_vb (xe_var (pv 3)))) (blkOk_by (own := [("one", 7)]) (N := N_law_all_right) (sc := defScope s_law_all_right) (by decide +kernel)) (fun _ _ _ _ _ => pg_name (i := 7) nd rfl (Or.inl rfl)) (fun _ _ _ _ _ => pts_nil) (fun _ _ _ _ _ => (xe_callC C_number_of_filling (hr.mono (by omega)) hgd (by rfl) (xa_val (xe_var (pv 1)) (xa_val (xe_var (pv 2)) (xa_val (xe_var (pv 7)) xa_nil))) (argN_val (argN_val (argN_val argN_nil)))))) (rd_compS (own_name 7) yes_ok)) (xss_frz 4 (xss_cons (xs_if (PW.pt (xw_or (xt_not (xt_val (xe_vb (xe_callC C_law_like (hr.mono (by omega)) hgd (by rfl) (xa_val (xe_var (pv 4)) (xa_val (xe_ov (xe_rgL1 (pe_listRg rfl (by rfl) B.b_list (prg_1 (by rfl) B.b_range (xe_vb (xe_callB c_lenA (by rfl) B.b_len (by decide +kernel) (xlb_cons (xe_vb (xe_var (pv 3))) xlb_nil))))))) xa_nil)) (argN_val (argN_val argN_nil)))))) (xw_or1 (xt_cmp (o_ne hu) (xe_vb (xe_var (pv 3))) (xe_vb (xe_ov (xe_callB (c_sortB hu) (by rfl) B.b_sorted (by decide +kernel) (xlb_cons (xe_vb (xe_var (pv 3))) xlb_nil)))) (nomark _))))) (xss_one (xs_ret (by decide) xe_bl)) xss_nil) (xss_cons (xs_set (i := 5) nd rfl (Or.inl rfl) (xe_callC C_law_draw (hr.mono (by omega)) hgd (by rfl) (xa_orc (pv 0) (xa_val (xe_callB c_lenA (by rfl) B.b_len (by decide +kernel) (xlb_cons (xe_vb (xe_var (pv 3))) xlb_nil)) xa_nil)) (argN_orc (argN_val argN_nil)))) (xss_cons (xs_setO (i := 4) nd rfl (Or.inl rfl) (xe_lst (xl_cons (xe_callC C_many_fillings (hr.mono (by omega)) hgd (by rfl) (xa_val (xe_var (pv 1)) (xa_val (xe_var (pv 2)) xa_nil)) (argN_val (argN_val argN_nil))) (xl_cons (xe_callKP P_many_fillings_0 (hr.mono (by omega)) hgd (by rfl) (xk_val (xe_var (pv 2)) (xk_val (xe_var (pv 1)) xk_nil)) (argN_val (argN_val argN_nil)) rfl) xl_nil)))) (xss_cons (xs_app (ps_expr (pe_bm PySem.F.plainAttrs_list PySem.F.slot_list_append PySem.F.type_list_append mt_append (pv 4) (pa_cons (xe_callKP P_filling_at_0 (hr.mono (by omega)) hgd (by rfl) (xk_val (xe_var (pv 5)) (xk_val (xe_var (pv 2)) (xk_val (xe_var (pv 1)) xk_nil))) (argN_val (argN_val (argN_val argN_nil))) rfl) pa_nil)))) (xss_cons (xs_app (ps_expr (pe_bm PySem.F.plainAttrs_list PySem.F.slot_list_append PySem.F.type_list_append mt_append (pv 4) (pa_cons (xe_callKP P_number_of_filling_0 (hr.mono (by omega)) hgd (by rfl) (xk_val (xe_ix (xe_vb (xe_var (pv 3))) (xe_vb (xe_var (pv 5))) (fun _ _ => rfl)) (xk_val (xe_var (pv 2)) (xk_val (xe_var (pv 1)) xk_nil))) (argN_val (argN_val (argN_val argN_nil))) rfl) pa_nil)))) (xss_cons (xs_setO (i := 4) nd rfl (Or.inl rfl) (xe_op o_cat (xe_varB (pv 4)) (xe_vb (xe_ov (xe_lst (xl_cons (xe_callC C_does_fill (hr.mono (by omega)) hgd (by rfl) (xa_val (xe_var (pv 1)) (xa_val (xe_var (pv 2)) (xa_val (xe_ix (xe_vb (xe_var (pv 3))) (xe_vb (xe_var (pv 5))) (fun _ _ => rfl)) xa_nil))) (argN_val (argN_val (argN_val argN_nil)))) (xl_cons (xe_callC C_need_gapped (hr.mono (by omega)) hgd (by rfl) (xa_val (xe_var (pv 1)) (xa_val (xe_var (pv 2)) xa_nil)) (argN_val (argN_val argN_nil))) xl_nil))))))) (xss_frz 4 (xss_cons (xs_if (xt_not (xt_val (xe_vb (xe_callC C_law_like (hr.mono (by omega)) hgd (by rfl) (xa_val (xe_var (pv 4)) (xa_val (xe_op o_addA (xe_vb (xe_ov (xe_op o_rep (xe_vb (xe_ov (xe_lst (xl_cons (xe_callB c_lenA (by rfl) B.b_len (by decide +kernel) (xlb_cons (xe_vb (xe_var (pv 3))) xlb_nil)) xl_nil)))) (xe_vb xe_int)))) (xe_vb (xe_ov (xe_lst (xl_cons (xe_ix (xe_vb (xe_var (pv 3))) (xe_vb (xe_var (pv 5))) (fun _ _ => rfl)) (xl_cons (xe_var (pv 5)) (xl_cons xe_bl (xl_cons (xe_var (pv 2)) xl_nil)))))))) xa_nil)) (argN_val (argN_val argN_nil)))))) (xss_one (xs_ret (by decide) xe_bl)) xss_nil) (xss_cons (xs_set (i := 6) nd rfl (Or.inl rfl) (xe_callC C_law_row (hr.mono (by omega)) hgd (by rfl) (xa_orc (pv 0) (xa_val (xe_var (pv 1)) (xa_val (xe_tup (xl_cons xe_str (xl_cons xe_str (xl_cons xe_str (xl_cons xe_str xl_nil))))) (xa_val (xe_op o_addA (xe_vb (xe_callB c_lenA (by rfl) B.b_len (by decide +kernel) (xlb_cons (xe_vb (xe_var (pv 2))) xlb_nil))) (xe_vb xe_int)) xa_nil)))) (argN_orc (argN_val (argN_val (argN_val argN_nil)))))) (xss_cons (xs_setO (i := 4) nd rfl (Or.inl rfl) (xe_lst (xl_cons (xe_callKP P_does_fill_0 (hr.mono (by omega)) hgd (by rfl) (xk_val (xe_var (pv 6)) (xk_val (xe_var (pv 2)) (xk_val (xe_var (pv 1)) xk_nil))) (argN_val (argN_val (argN_val argN_nil))) rfl) (xl_cons (xe_callC C_number_of_filling (hr.mono (by omega)) hgd (by rfl) (xa_val (xe_var (pv 1)) (xa_val (xe_var (pv 2)) (xa_val (xe_var (pv 6)) xa_nil))) (argN_val (argN_val (argN_val argN_nil)))) xl_nil)))) (xss_frz 4 (xss_one (xs_ret (by decide) (xe_callC C_law_like (hr.mono (by omega)) hgd (by rfl) (xa_val (xe_var (pv 4)) (xa_val (xe_ov (xe_lst (xl_cons (xe_cmp (o_inA0 hu) (xe_vb (xe_var (pv 6))) (xe_vb (xe_var (pv 3))) (by with_unfolding_all rfl)) (xl_cons (xe_if (xt_cmp (o_inA0 hu) (xe_vb (xe_var (pv 6))) (xe_vb (xe_var (pv 3))) (by with_unfolding_all rfl)) (xe_idxA (pe_bm PySem.F.plainAttrs_list PySem.F.slot_list_index PySem.F.type_list_index (mt_idxD hu) (xe_vb (xe_var (pv 3))) (pa_cons (xe_vb (xe_var (pv 6))) pa_nil))) xe_non) xl_nil)))) xa_nil)) (argN_val (argN_val argN_nil)))))))))))))))))))))
abbrev s_law_great_right : Stmt := topS 52
abbrev N_law_great_right : List Str := ["m", "cords_so", "some", "items_so", "lot", "picks", "told", "lots", "total", "row_so", "at", "pick", "turn"]
theorem sc_law_great_right : FnScope N_law_great_right ["m", "cords_so"] (defScope s_law_great_right) := ⟨rfl, rfl, rfl, by decide +kernel, rfl, by decide +kernel, by decide +kernel⟩
def m_law_great_right : List Slot → Tr D := fnF 13 .v (sSeq (sSet 2 (eLst (lCons (eC .none) (lCons (eC .none) (lCons (eTup (lCons (eTup (lCons (eC (.str "cut")) (lCons (eC (.int 0)) lNil))) lNil)) (lCons (eC .none) (lCons (eTup (lCons (eTup (lCons (eC (.str "cut")) (lCons (e2 dSub (eVar 1) (eC (.int 1))) lNil))) lNil)) lNil))))))) (sSeq (sSet 3 (eCB dTuple (lCons (eCompR (lCons (eC (.int 12)) lNil) (gN 12) fYes (eCall m_law_of (aOrc 0 (aVal (eVar 2) aNil))) [12]) lNil))) (sSeq (sPar false false 7 8 (eCall m_law_lots (aVal (eVar 1) (aVal (eVar 3) aNil))) (eC (.int 1))) (sSeq (sForS (eVar 7) (gN 4) (sSet 8 (e2 dMul (eVar 8) (eCB dLenA (lCons (eVar 4) lNil))))) (sSeq (sSet 5 (eCompS (eVar 7) (gN 4) fYes (eCall m_law_draw (aOrc 0 (aVal (eCB dLenA (lCons (eVar 4) lNil)) aNil))) [4])) (sSeq (sPar false false 9 10 (eCB dTuple (lCons (eCompZF (lCons (eVar 7) (lCons (eVar 5) lNil)) (gT 2 (gsCons (gN 4) (gsCons (gN 11) gsNil))) fYes (e2 dIx (eVar 4) (eVar 11)) [4, 11]) lNil)) (eC (.int 0))) (sSeq (sForZF (lCons (eVar 7) (lCons (eVar 5) lNil)) (gT 2 (gsCons (gN 4) (gsCons (gN 11) gsNil))) (sSet 10 (e2 dAddA (e2 dMul (eVar 10) (eCB dLenA (lCons (eVar 4) lNil))) (eVar 11)))) (sSeq (sSetO 6 (eLst (lCons (eCall m_many_fillings (aVal (eVar 1) (aVal (eVar 3) aNil))) (lCons (eCall m_number_of_filling (aVal (eVar 1) (aVal (eVar 3) (aVal (eVar 9) aNil)))) lNil)))) (sSeq (sApp 6 (eCall m_filling_at (aVal (eVar 1) (aVal (eVar 3) (aVal (eVar 10) aNil))))) (fun env => (sRet (eCall m_law_like (aVal (eVar 6) (aVal (eLst (lCons (eVar 8) (lCons (eVar 10) (lCons (eVar 9) lNil)))) aNil)))) (frz 6 env)))))))))))
theorem ok_law_great_right {f : Addr} {fd : FuncData} (F : Fun K "_law_great_right" "_law_great_right" s_law_great_right f fd) (B : Bt K mg) (C_law_of : Cal P w K mg base "_law_of" 3 ["m", "some"] (spD K .v 2 m_law_of)) (C_law_lots : Cal P w K mg base "_law_lots" 2 ["cords_so", "items_so"] (spD K .o 2 m_law_lots)) (C_law_draw : Cal P w K mg base "_law_draw" 2 ["m", "limit"] (spD K .v 2 m_law_draw)) (C_number_of_filling : Cal P w K mg base "number_of_filling" 7 ["cords", "gapped", "row"] (spD K .v 3 m_number_of_filling)) (C_many_fillings : Cal P w K mg base "many_fillings" 6 ["cords", "gapped"] (spD K .v 2 m_many_fillings)) (C_filling_at : Cal P w K mg base "filling_at" 7 ["cords", "gapped", "number"] (spD K .v 3 m_filling_at)) (C_law_like : Cal P w K mg base "_law_like" 1 ["got", "due"] (spD K .v 2 m_law_like)) : FnG P w K mg base 8 f fd ["m", "cords_so"] (spD K .v 2 m_law_great_right) := by
  refine fn_ok (k := .v) (Ns := N_law_great_right) (ps := ["m", "cords_so"]) F sc_law_great_right ?_
  exact fun cdv A outer s H E hr hgd => (have hu := hr.units; have hu1 := hu_of hr; have nd := sc_law_great_right.nd; (xss_cons (xs_set (i := 2) nd rfl (Or.inr rfl) (xe_ov (xe_lst (xl_cons xe_non (xl_cons xe_non (xl_cons (xe_tup (xl_cons (xe_tup (xl_cons xe_str (xl_cons xe_int xl_nil))) xl_nil)) (xl_cons xe_non (xl_cons (xe_tup (xl_cons (xe_tup (xl_cons xe_str (xl_cons (xe_op o_sub (xe_vb (xe_var (pv 1))) (xe_vb xe_int)) xl_nil))) xl_nil)) xl_nil)))))))) (xss_cons (xs_set (i := 3) nd rfl (Or.inl rfl) (xe_callT c_tuple (by rfl) B.b_tuple (by decide +kernel) (xlb_cons (xe_vb (xe_ov (xe_compR1 (own_name 12) yes_ok (lenN_cons lenN_nil) (pe_lc (own := [("turn", 12)]) (g := (gName 12)) rfl nd (pi_range1 (by rfl) B.b_range (xlb_cons (xe_vb xe_int) xlb_nil)) (blkOk_by (own := [("turn", 12)]) (N := N_law_great_right) (sc := defScope s_law_great_right) (by decide +kernel)) (fun _ _ _ _ _ => pg_name (i := 12) nd rfl (Or.inl rfl)) (fun _ _ _ _ _ => pts_nil) (fun _ _ _ _ _ => (xe_callC C_law_of (hr.mono (by omega)) hgd (by rfl) (xa_orc (pv 0) (xa_val (xe_var (pv 2)) xa_nil)) (argN_orc (argN_val argN_nil)))))))) xlb_nil))) (xss_cons (xs_par (o1 := false) (o2 := false) (ps_par rfl nd rfl rfl (by decide) rfl rfl (pa_cons (xe_ov (xe_callC C_law_lots (hr.mono (by omega)) hgd (by rfl) (xa_val (xe_var (pv 1)) (xa_val (xe_var (pv 3)) xa_nil)) (argN_val (argN_val argN_nil)))) (pa_cons xe_int pa_nil)) (by rfl))) (xss_cons (xs_forS (ps_for PassesOwn.never rfl (pi_seq (xe_var (pv 7))) (xg_name (pg_name (i := 4) nd rfl (Or.inl rfl))) (xss_one (xs_set (i := 8) nd rfl (Or.inl rfl) (xe_op o_mul (xe_vb (xe_var (pv 8))) (xe_vb (xe_callB c_lenA (by rfl) B.b_len (by decide +kernel) (xlb_cons (xe_vb (xe_var (pv 4))) xlb_nil)))))))) (xss_cons (xs_setLcV (ps_setLc (i := 5) (own := [("lot", 4)]) (g := (gName 4)) rfl nd rfl rfl (sw_true rfl rfl rfl (by decide +kernel)) (pi_seq (xe_vb (xe_var (pv 7)))) (blkOk_by (own := [("lot", 4)]) (N := N_law_great_right) (sc := defScope s_law_great_right) (by decide +kernel)) (fun _ _ _ _ _ => pg_name (i := 4) nd rfl (Or.inl rfl)) (fun _ _ _ _ _ => pts_nil) (fun _ _ _ _ _ => (xe_callC C_law_draw (hr.mono (by omega)) hgd (by rfl) (xa_orc (pv 0) (xa_val (xe_callB c_lenA (by rfl) B.b_len (by decide +kernel) (xlb_cons (xe_vb (xe_var (pv 4))) xlb_nil)) xa_nil)) (argN_orc (argN_val argN_nil))))) (fun _ _ _ q => (rd_compS (own_name 4) yes_ok) _ _ _ (readOV q))) (xss_cons (xs_par (o1 := false) (o2 := false) (ps_par rfl nd rfl rfl (by decide) rfl rfl (pa_cons (xe_callT c_tuple (by rfl) B.b_tuple (by decide +kernel) (xlb_cons (xe_vb (xe_ov (xe_compZF (own_two 4 11) yes_ok (pe_lc (own := [("lot", 4), ("pick", 11)]) (g := (gTup _ 2 (gCons (gName 4) (gCons (gName 11) gNil)))) rfl nd (pi_zipF (by rfl) B.b_zip (xl_cons (xe_var (pv 7)) (xl_cons (xe_var (pv 5)) xl_nil))) (blkOk_by (own := [("lot", 4), ("pick", 11)]) (N := N_law_great_right) (sc := defScope s_law_great_right) (by decide +kernel)) (fun _ _ _ _ _ => pg_tup rfl (pgs_cons (pg_name (i := 4) nd rfl (Or.inl rfl)) (pgs_cons (pg_name (i := 11) nd rfl (Or.inl rfl)) pgs_nil))) (fun _ _ _ _ _ => pts_nil) (fun _ _ _ _ _ => (xe_ix (xe_vb (xe_var (pv 4))) (xe_vb (xe_var (pv 11))) (fun _ _ => rfl))))))) xlb_nil)) (pa_cons xe_int pa_nil)) (by rfl))) (xss_cons (xs_forZF (ps_for PassesOwn.never rfl (pi_zipF (by rfl) B.b_zip (xl_cons (xe_var (pv 7)) (xl_cons (xe_var (pv 5)) xl_nil))) (xg_tup rfl (xgs_cons (xg_name (pg_name (i := 4) nd rfl (Or.inl rfl))) (xgs_cons (xg_name (pg_name (i := 11) nd rfl (Or.inl rfl))) xgs_nil))) (xss_one (xs_set (i := 10) nd rfl (Or.inl rfl) (xe_op o_addA (xe_vb (xe_op o_mul (xe_vb (xe_var (pv 10))) (xe_vb (xe_callB c_lenA (by rfl) B.b_len (by decide +kernel) (xlb_cons (xe_vb (xe_var (pv 4))) xlb_nil))))) (xe_vb (xe_var (pv 11)))))))) (xss_cons (xs_setO (i := 6) nd rfl (Or.inl rfl) (xe_lst (xl_cons (xe_callC C_many_fillings (hr.mono (by omega)) hgd (by rfl) (xa_val (xe_var (pv 1)) (xa_val (xe_var (pv 3)) xa_nil)) (argN_val (argN_val argN_nil))) (xl_cons (xe_callC C_number_of_filling (hr.mono (by omega)) hgd (by rfl) (xa_val (xe_var (pv 1)) (xa_val (xe_var (pv 3)) (xa_val (xe_var (pv 9)) xa_nil))) (argN_val (argN_val (argN_val argN_nil)))) xl_nil)))) (xss_cons (xs_app (ps_expr (pe_bm PySem.F.plainAttrs_list PySem.F.slot_list_append PySem.F.type_list_append mt_append (pv 6) (pa_cons (xe_callC C_filling_at (hr.mono (by omega)) hgd (by rfl) (xa_val (xe_var (pv 1)) (xa_val (xe_var (pv 3)) (xa_val (xe_var (pv 10)) xa_nil))) (argN_val (argN_val (argN_val argN_nil)))) pa_nil)))) (xss_frz 6 (xss_one (xs_ret (by decide) (xe_callC C_law_like (hr.mono (by omega)) hgd (by rfl) (xa_val (xe_var (pv 6)) (xa_val (xe_ov (xe_lst (xl_cons (xe_var (pv 8)) (xl_cons (xe_var (pv 10)) (xl_cons (xe_var (pv 9)) xl_nil))))) xa_nil)) (argN_val (argN_val argN_nil))))))))))))))))
abbrev s_law_between_right : Stmt := topS 53
abbrev N_law_between_right : List Str := ["m", "cords_so", "words_so", "far", "due", "told", "near", "whole", "one", "two", "deed"]
theorem sc_law_between_right : FnScope N_law_between_right ["m", "cords_so"] (defScope s_law_between_right) := ⟨rfl, rfl, rfl, by decide +kernel, rfl, by decide +kernel, by decide +kernel⟩
def m_law_between_right : List Slot → Tr D := fnF 11 .v (sSeq (sSet 2 (eTup (lCons (eC (.str "cut")) (lCons (eC (.str "hook")) (lCons (eC (.str "join")) (lCons (eC (.str "swap")) lNil)))))) (sSeq (sAsg (eTup (lCons (eCall m_law_row (aOrc 0 (aVal (eVar 1) (aVal (eVar 2) (aVal (eC (.int 12)) aNil))))) (lCons (eCall m_law_deeds (aVal (eVar 1) (aVal (eVar 2) aNil))) lNil))) (gT 2 (gsCons (gN 6) (gsCons (gN 7) gsNil)))) (sSeq (sSet 3 (eCB dTuple (lCons (eCompS (eVar 6) (gN 10) fYes (eIf (tt (e2 dEq (eCall m_law_draw (aOrc 0 (aVal (eC (.int 2)) aNil))) (eC (.int 0)))) (eVar 10) (eCall m_law_of (aOrc 0 (aVal (eVar 7) aNil)))) [10]) lNil))) (sSeq (sSetO 4 (eLst lNil)) (sSeq (sForZF (lCons (eVar 6) (lCons (eVar 3) lNil)) (gT 2 (gsCons (gN 8) (gsCons (gN 9) gsNil))) (sApp 4 (eIf (tt (e2 dEq (eVar 8) (eVar 9))) (eTup (lCons (eVar 8) lNil)) (eTup (lCons (eCB dMin2D (lCons (eVar 8) (lCons (eVar 9) lNil))) (lCons (eCB dMax2D (lCons (eVar 8) (lCons (eVar 9) lNil))) lNil)))))) (sSeq (sSet 5 (eLst (lCons (eCall m_gapped_between (aVal (eVar 1) (aVal (eVar 6) (aVal (eVar 3) aNil)))) (lCons (eCall m_gapped_between (aReo 3 [2, 1, 0] (aVal (eVar 3) (aVal (eVar 6) (aVal (eVar 1) aNil))))) lNil)))) (sRet (eCall m_law_like (aVal (eVar 5) (aVal (e2 dRep (eLst (lCons (eCB dTuple (lCons (eVarB 4) lNil)) lNil)) (eC (.int 2))) aNil))))))))))
theorem ok_law_between_right {f : Addr} {fd : FuncData} (F : Fun K "_law_between_right" "_law_between_right" s_law_between_right f fd) (B : Bt K mg) (C_law_deeds : Cal P w K mg base "_law_deeds" 1 ["cords_so", "family_so"] (spD K .v 2 m_law_deeds)) (C_law_row : Cal P w K mg base "_law_row" 4 ["m", "cords_so", "family_so", "most"] (spD K .v 4 m_law_row)) (C_law_draw : Cal P w K mg base "_law_draw" 2 ["m", "limit"] (spD K .v 2 m_law_draw)) (C_law_of : Cal P w K mg base "_law_of" 3 ["m", "some"] (spD K .v 2 m_law_of)) (C_gapped_between : Cal P w K mg base "gapped_between" 4 ["cords", "row", "far_row"] (spD K .v 3 m_gapped_between)) (C_law_like : Cal P w K mg base "_law_like" 1 ["got", "due"] (spD K .v 2 m_law_like)) (P_gapped_between_0 : CalK P w K mg base "gapped_between" 4 ["cords", "row", "far_row"] (reo 3 [2, 1, 0] .none) (reo 3 [2, 1, 0] .non) (spD K .v 3 m_gapped_between) ["far_row", "row", "cords"]) : FnG P w K mg base 5 f fd ["m", "cords_so"] (spD K .v 2 m_law_between_right) :=
  fn_ok F sc_law_between_right fun cdv A outer s H E hr hgd => (have hu := hr.units; have hu1 := hu_of hr; have nd := sc_law_between_right.nd; (xss_cons (xs_set (i := 2) nd rfl (Or.inl rfl) (xe_tup (xl_cons xe_str (xl_cons xe_str (xl_cons xe_str (xl_cons xe_str xl_nil)))))) (xss_cons (xs_asg (ps_asg (xe_tup (xl_cons (xe_callC C_law_row (hr.mono (by omega)) hgd (by rfl) (xa_orc (pv 0) (xa_val (xe_var (pv 1)) (xa_val (xe_var (pv 2)) (xa_val xe_int xa_nil)))) (argN_orc (argN_val (argN_val (argN_val argN_nil))))) (xl_cons (xe_callC C_law_deeds (hr.mono (by omega)) hgd (by rfl) (xa_val (xe_var (pv 1)) (xa_val (xe_var (pv 2)) xa_nil)) (argN_val (argN_val argN_nil))) xl_nil))) (xg_tup rfl (xgs_cons (xg_name (pg_name (i := 6) nd rfl (Or.inl rfl))) (xgs_cons (xg_name (pg_name (i := 7) nd rfl (Or.inr rfl))) xgs_nil))))) (xss_cons (xs_set (i := 3) nd rfl (Or.inl rfl) (xe_callT c_tuple (by rfl) B.b_tuple (by decide +kernel) (xlb_cons (xe_vb (xe_ov (xe_compS (own_name 10) yes_ok (pe_lc (own := [("deed", 10)]) (g := (gName 10)) rfl nd (pi_seq (xe_vb (xe_var (pv 6)))) (blkOk_by (own := [("deed", 10)]) (N := N_law_between_right) (sc := defScope s_law_between_right) (by decide +kernel)) (fun _ _ _ _ _ => pg_name (i := 10) nd rfl (Or.inl rfl)) (fun _ _ _ _ _ => pts_nil) (fun _ _ _ _ _ => (xe_if (xt_cmp (o_eq hu) (xe_vb (xe_callC C_law_draw (hr.mono (by omega)) hgd (by rfl) (xa_orc (pv 0) (xa_val xe_int xa_nil)) (argN_orc (argN_val argN_nil)))) (xe_vb xe_int) (nomark _)) (xe_var (pv 10)) (xe_callC C_law_of (hr.mono (by omega)) hgd (by rfl) (xa_orc (pv 0) (xa_val (xe_var (pv 7)) xa_nil)) (argN_orc (argN_val argN_nil))))))))) xlb_nil))) (xss_cons (xs_setO (i := 4) nd rfl (Or.inl rfl) (xe_lst xl_nil)) (xss_cons (xs_forZF (ps_for PassesOwn.never rfl (pi_zipF (by rfl) B.b_zip (xl_cons (xe_var (pv 6)) (xl_cons (xe_var (pv 3)) xl_nil))) (xg_tup rfl (xgs_cons (xg_name (pg_name (i := 8) nd rfl (Or.inl rfl))) (xgs_cons (xg_name (pg_name (i := 9) nd rfl (Or.inl rfl))) xgs_nil))) (xss_one (xs_app (ps_expr (pe_bm PySem.F.plainAttrs_list PySem.F.slot_list_append PySem.F.type_list_append mt_append (pv 4) (pa_cons (xe_if (xt_cmp (o_eq hu) (xe_vb (xe_var (pv 8))) (xe_vb (xe_var (pv 9))) (nomark _)) (xe_tup (xl_cons (xe_var (pv 8)) xl_nil)) (xe_tup (xl_cons (xe_callB (c_min2D hu rfl) (by rfl) B.b_min (by decide +kernel) (xlb_cons (xe_vb (xe_var (pv 8))) (xlb_cons (xe_vb (xe_var (pv 9))) xlb_nil))) (xl_cons (xe_callB (c_max2D hu rfl) (by rfl) B.b_max (by decide +kernel) (xlb_cons (xe_vb (xe_var (pv 8))) (xlb_cons (xe_vb (xe_var (pv 9))) xlb_nil))) xl_nil)))) pa_nil))))))) (xss_cons (xs_set (i := 5) nd rfl (Or.inl rfl) (xe_ov (xe_lst (xl_cons (xe_callC C_gapped_between (hr.mono (by omega)) hgd (by rfl) (xa_val (xe_var (pv 1)) (xa_val (xe_var (pv 6)) (xa_val (xe_var (pv 3)) xa_nil))) (argN_val (argN_val (argN_val argN_nil)))) (xl_cons (xe_callKP P_gapped_between_0 (hr.mono (by omega)) hgd (by rfl) (xk_val (xe_var (pv 3)) (xk_val (xe_var (pv 6)) (xk_val (xe_var (pv 1)) xk_nil))) (argN_val (argN_val (argN_val argN_nil))) rfl) xl_nil))))) (xss_one (xs_ret (by decide) (xe_callC C_law_like (hr.mono (by omega)) hgd (by rfl) (xa_val (xe_var (pv 5)) (xa_val (xe_ov (xe_op o_rep (xe_vb (xe_ov (xe_lst (xl_cons (xe_callT c_tuple (by rfl) B.b_tuple (by decide +kernel) (xlb_cons (xe_varB (pv 4)) xlb_nil)) xl_nil)))) (xe_vb xe_int))) xa_nil)) (argN_val (argN_val argN_nil))))))))))))
abbrev s_law : Stmt := topS 54
abbrev N_law : List Str := ["script", "m", "turn", "cords_so", "whole", "told"]
theorem sc_law : FnScope N_law ["script"] (defScope s_law) := ⟨rfl, rfl, rfl, by decide +kernel, rfl, by decide +kernel, by decide +kernel⟩
def m_rest : FS := (sSeq (sForR (lCons (e2 dAddA (eC (.int 1)) (eCB dMin2 (lCons (eC (.int 2)) (lCons (eCB dLenA (lCons (eVar 0) lNil)) lNil)))) lNil) (gN 2) (sSeq (sSet 3 (eCall m_law_of (aOrc 1 (aVal (eLst (lCons (eC (.int 2)) (lCons (eC (.int 3)) (lCons (eC (.int 1)) (lCons (eC (.int 3)) (lCons (eC (.int 4)) lNil)))))) aNil)))) (sSeq (sIf (bNot (tt (eCall m_law_all_right (aOrc 1 (aVal (eVar 3) (aVal (eCall m_law_items (aOrc 1 (aVal (eVar 3) (aVal (eC (.int 5)) (aVal (eC (.int 150)) aNil))))) aNil)))))) (sRet (eC (.bool false))) sNext) (sIf (bOr (bNot (tt (eCall m_law_great_right (aOrc 1 (aVal (e2 dAddA (eC (.int 1)) (eCall m_law_draw (aOrc 1 (aVal (eC (.int 5)) aNil)))) aNil))))) (bNot (tt (eCall m_law_between_right (aOrc 1 (aVal (e2 dAddA (eC (.int 1)) (eCall m_law_draw (aOrc 1 (aVal (eC (.int 5)) aNil)))) aNil)))))) (sRet (eC (.bool false))) sNext)))) (sSeq (sSet 3 (e2 dAddA (eC (.int 1)) (eCall m_law_draw (aOrc 1 (aVal (eC (.int 5)) aNil))))) (sSeq (sSet 4 (eCB dTuple (lCons (eCall m_law_deeds (aVal (eVar 3) (aVal (eTup (lCons (eC (.str "cut")) (lCons (eC (.str "hook")) (lCons (eC (.str "join")) (lCons (eC (.str "swap")) lNil))))) aNil))) lNil))) (sSeq (sSet 5 (eLst (lCons (eCall m_all_deeds (aVal (eVar 3) aNil)) (lCons (eCall m_all_deeds (aVal (eVar 3) aNil)) (lCons (eCall m_many_fillings (aVal (eVar 3) (aVal (eTup lNil) aNil))) lNil))))) (sSeq (sSet 5 (e2 dAddA (eVar 5) (eLst (lCons (eCall m_filling_at (aVal (eVar 3) (aVal (eTup lNil) (aVal (eC (.int 0)) aNil)))) (lCons (eCall m_need_gapped (aReo 2 [1, 0] (aVal (eTup (lCons (eC .none) lNil)) (aVal (eVar 3) aNil)))) lNil))))) (sRet (eCall m_law_like (aVal (eVar 5) (aVal (eLst (lCons (eVar 4) (lCons (eVar 4) (lCons (eC (.int 1)) (lCons (eTup lNil) (lCons (eTup (lCons (eC .none) lNil)) lNil)))))) aNil)))))))))
set_option maxHeartbeats 1000000 in
theorem ok_law {f : Addr} {fd : FuncData} (F : Fun K "law" "law" s_law f fd) (B : Bt K mg) (ok : RestOk 4 m_rest) (noLam : lamTabs K = []) (C_law_begun : Cal P w K mg base "_law_begun" 2 ["script"] (spBegun K)) (C_law_of : Cal P w K mg base "_law_of" 3 ["m", "some"] (spD K .v 2 m_law_of)) (C_law_items : Cal P w K mg base "_law_items" 4 ["m", "cords_so", "most", "top"] (spD K .v 4 m_law_items)) (C_law_all_right : Cal P w K mg base "_law_all_right" 8 ["m", "cords_so", "items_so"] (spD K .v 3 m_law_all_right)) (C_law_draw : Cal P w K mg base "_law_draw" 2 ["m", "limit"] (spD K .v 2 m_law_draw)) (C_law_great_right : Cal P w K mg base "_law_great_right" 8 ["m", "cords_so"] (spD K .v 2 m_law_great_right)) (C_law_between_right : Cal P w K mg base "_law_between_right" 5 ["m", "cords_so"] (spD K .v 2 m_law_between_right)) (C_law_deeds : Cal P w K mg base "_law_deeds" 1 ["cords_so", "family_so"] (spD K .v 2 m_law_deeds)) (C_many_fillings : Cal P w K mg base "many_fillings" 6 ["cords", "gapped"] (spD K .v 2 m_many_fillings)) (C_all_deeds : Cal P w K mg base "all_deeds" 3 ["cords"] (spD K .v 1 m_all_deeds)) (C_filling_at : Cal P w K mg base "filling_at" 7 ["cords", "gapped", "number"] (spD K .v 3 m_filling_at)) (C_law_like : Cal P w K mg base "_law_like" 1 ["got", "due"] (spD K .v 2 m_law_like)) (K_all_deeds : CalK P w K mg base "all_deeds" 3 ["cords"] id id (spD K .v 1 m_all_deeds) ["cords"]) (P_need_gapped_0 : CalK P w K mg base "need_gapped" 6 ["cords", "gapped"] (reo 2 [1, 0] .none) (reo 2 [1, 0] .non) (spD K .v 2 m_need_gapped) ["gapped", "cords"]) : FnG P w K mg base 9 f fd ["script"] (spLaw K) :=
  law_of_rest F sc_law (n := 4) (rest := m_rest) rfl (fun cdv A outer s H E hr hgd => ⟨_, fun _ _ _ q => q, (have hu := hr.units; have hu1 := hu_of hr; have nd := sc_law.nd; pss_cons (ps_set (i := 1) nd rfl (Or.inl rfl) (pe_callG C_law_begun (hr.mono (by omega)) hgd (by rfl) (pa_cons (pv 0) pa_nil))) (xss_cons (xs_forR1 (ps_for PassesOwn.never rfl (pi_range1 (by rfl) B.b_range (xlb_cons (xe_vb (xe_op o_addA (xe_vb xe_int) (xe_vb (xe_callB (c_min2 rfl) (by rfl) B.b_min (by decide +kernel) (xlb_cons (xe_vb xe_int) (xlb_cons (xe_vb (xe_callB c_lenA (by rfl) B.b_len (by decide +kernel) (xlb_cons (xe_vb (xe_var (pv 0))) xlb_nil))) xlb_nil)))))) xlb_nil)) (xg_name (pg_name (i := 2) nd rfl (Or.inl rfl))) (xss_cons (xs_set (i := 3) nd rfl (Or.inl rfl) (xe_callC C_law_of (hr.mono (by omega)) hgd (by rfl) (xa_orc (pv 1) (xa_val (xe_ov (xe_lst (xl_cons xe_int (xl_cons xe_int (xl_cons xe_int (xl_cons xe_int (xl_cons xe_int xl_nil))))))) xa_nil)) (argN_orc (argN_val argN_nil)))) (xss_cons (xs_if (xt_not (xt_val (xe_vb (xe_callC C_law_all_right (hr.mono (by omega)) hgd (by rfl) (xa_orc (pv 1) (xa_val (xe_var (pv 3)) (xa_val (xe_callC C_law_items (hr.mono (by omega)) hgd (by rfl) (xa_orc (pv 1) (xa_val (xe_var (pv 3)) (xa_val xe_int (xa_val xe_int xa_nil)))) (argN_orc (argN_val (argN_val (argN_val argN_nil))))) xa_nil))) (argN_orc (argN_val (argN_val argN_nil))))))) (xss_one (xs_ret (by decide) xe_bl)) xss_nil) (xss_one (xs_if (PW.pt (xw_or (xt_not (xt_val (xe_vb (xe_callC C_law_great_right (hr.mono (by omega)) hgd (by rfl) (xa_orc (pv 1) (xa_val (xe_op o_addA (xe_vb xe_int) (xe_vb (xe_callC C_law_draw (hr.mono (by omega)) hgd (by rfl) (xa_orc (pv 1) (xa_val xe_int xa_nil)) (argN_orc (argN_val argN_nil))))) xa_nil)) (argN_orc (argN_val argN_nil)))))) (xw_or1 (xt_not (xt_val (xe_vb (xe_callC C_law_between_right (hr.mono (by omega)) hgd (by rfl) (xa_orc (pv 1) (xa_val (xe_op o_addA (xe_vb xe_int) (xe_vb (xe_callC C_law_draw (hr.mono (by omega)) hgd (by rfl) (xa_orc (pv 1) (xa_val xe_int xa_nil)) (argN_orc (argN_val argN_nil))))) xa_nil)) (argN_orc (argN_val argN_nil))))))))) (xss_one (xs_ret (by decide) xe_bl)) xss_nil))))) (lenN_cons lenN_nil)) (xss_cons (xs_set (i := 3) nd rfl (Or.inl rfl) (xe_op o_addA (xe_vb xe_int) (xe_vb (xe_callC C_law_draw (hr.mono (by omega)) hgd (by rfl) (xa_orc (pv 1) (xa_val xe_int xa_nil)) (argN_orc (argN_val argN_nil)))))) (xss_cons (xs_set (i := 4) nd rfl (Or.inl rfl) (xe_callT c_tuple (by rfl) B.b_tuple (by decide +kernel) (xlb_cons (xe_vb (xe_callC C_law_deeds (hr.mono (by omega)) hgd (by rfl) (xa_val (xe_var (pv 3)) (xa_val (xe_tup (xl_cons xe_str (xl_cons xe_str (xl_cons xe_str (xl_cons xe_str xl_nil))))) xa_nil)) (argN_val (argN_val argN_nil)))) xlb_nil))) (xss_cons (xs_set (i := 5) nd rfl (Or.inl rfl) (xe_ov (xe_lst (xl_cons (xe_callC C_all_deeds (hr.mono (by omega)) hgd (by rfl) (xa_val (xe_var (pv 3)) xa_nil) (argN_val argN_nil)) (xl_cons (xe_callK K_all_deeds (hr.mono (by omega)) hgd (by rfl) (xk_val (xe_var (pv 3)) xk_nil) (argN_val argN_nil)) (xl_cons (xe_callC C_many_fillings (hr.mono (by omega)) hgd (by rfl) (xa_val (xe_var (pv 3)) (xa_val (xe_tup xl_nil) xa_nil)) (argN_val (argN_val argN_nil))) xl_nil)))))) (xss_cons (xs_set (i := 5) nd rfl (Or.inl rfl) (xe_op o_addA (xe_vb (xe_var (pv 5))) (xe_vb (xe_ov (xe_lst (xl_cons (xe_callC C_filling_at (hr.mono (by omega)) hgd (by rfl) (xa_val (xe_var (pv 3)) (xa_val (xe_tup xl_nil) (xa_val xe_int xa_nil))) (argN_val (argN_val (argN_val argN_nil)))) (xl_cons (xe_callKP P_need_gapped_0 (hr.mono (by omega)) hgd (by rfl) (xk_val (xe_tup (xl_cons xe_non xl_nil)) (xk_val (xe_var (pv 3)) xk_nil)) (argN_val (argN_val argN_nil)) rfl) xl_nil))))))) (xss_one (xs_ret (by decide) (xe_callC C_law_like (hr.mono (by omega)) hgd (by rfl) (xa_val (xe_var (pv 5)) (xa_val (xe_ov (xe_lst (xl_cons (xe_var (pv 4)) (xl_cons (xe_var (pv 4)) (xl_cons xe_int (xl_cons (xe_tup xl_nil) (xl_cons (xe_tup (xl_cons xe_non xl_nil)) xl_nil))))))) xa_nil)) (argN_val (argN_val argN_nil)))))))))))⟩) ok noLam
end
end T56
end
section
set_option linter.all false
namespace FM
section
variable {α β P Q : Type} [DecidableEq α] [DecidableEq β]
def dd : List α → List α
  | [] => []
  | x :: xs => if x ∈ xs then dd xs else x :: dd xs
def cnt (l : List α) : Nat := (dd l).length
theorem dd_cons (x : α) (xs : List α) : dd (x :: xs) = if x ∈ xs then dd xs else x :: dd xs := rfl
theorem mem_dd {x : α} : ∀ {l : List α}, x ∈ dd l ↔ x ∈ l
  | [] => Iff.rfl
  | y :: l => by
    unfold dd
    split
    · rename_i h
      rw [mem_dd (l := l), List.mem_cons]
      exact ⟨.inr, fun z => z.elim (fun e => e ▸ h) id⟩
    · rw [List.mem_cons, List.mem_cons, mem_dd (l := l)]
theorem nodup_dd : ∀ l : List α, (dd l).Nodup
  | [] => List.nodup_nil
  | y :: l => by
    unfold dd
    split
    · exact nodup_dd l
    · rename_i h
      exact List.nodup_cons.mpr ⟨fun z => h (mem_dd.mp z), nodup_dd l⟩
theorem len_le : ∀ {a b : List α}, a.Nodup → (∀ v, v ∈ a → v ∈ b) → a.length ≤ b.length
  | [], _, _, _ => Nat.zero_le _
  | x :: a, b, nd, h => by
    have nd' := List.nodup_cons.mp nd
    have hx : x ∈ b := h x List.mem_cons_self
    have q := len_le (a := a) (b := b.erase x) nd'.2 fun v hv => (List.mem_erase_of_ne (fun e => nd'.1 (by rw [← e]; exact hv))).mpr (h v (List.mem_cons_of_mem _ hv))
    rw [List.length_erase_of_mem hx] at q
    have := List.length_pos_of_mem hx
    rw [List.length_cons]
    omega
theorem cnt_congr {a b : List α} (h : ∀ v, v ∈ a ↔ v ∈ b) : cnt a = cnt b :=
  Nat.le_antisymm (len_le (nodup_dd a) fun v hv => mem_dd.mpr ((h v).mp (mem_dd.mp hv))) (len_le (nodup_dd b) fun v hv => mem_dd.mpr ((h v).mpr (mem_dd.mp hv)))
/-- two labellings with the same kernel over some points -/
def KE (S : P → Prop) (f : P → α) (g : P → β) : Prop := ∀ x y, S x → S y → (f x = f y ↔ g x = g y)
theorem cnt_ke {f : P → α} {g : P → β} : ∀ {pts : List P}, KE (· ∈ pts) f g → cnt (pts.map f) = cnt (pts.map g)
  | [], _ => rfl
  | p :: pts, h => by
    have ih := cnt_ke (pts := pts) fun x y hx hy => h x y (List.mem_cons_of_mem _ hx) (List.mem_cons_of_mem _ hy)
    have e : f p ∈ pts.map f ↔ g p ∈ pts.map g := by
      rw [List.mem_map, List.mem_map]
      exact ⟨fun ⟨q, hq, z⟩ => ⟨q, hq, (h q p (List.mem_cons_of_mem _ hq) List.mem_cons_self).mp z⟩, fun ⟨q, hq, z⟩ => ⟨q, hq, (h q p (List.mem_cons_of_mem _ hq) List.mem_cons_self).mpr z⟩⟩
    unfold cnt at ih ⊢
    rw [List.map_cons, List.map_cons]
    unfold dd
    by_cases z : f p ∈ pts.map f
    · rw [if_pos z, if_pos (e.mp z)]; exact ih
    · rw [if_neg z, if_neg (fun q => z (e.mpr q)), List.length_cons, List.length_cons, ih]
theorem cnt_app {a b : List α} (h : ∀ v, v ∈ a → v ∈ b → False) : cnt (a ++ b) = cnt a + cnt b := by
  induction a with
  | nil => simp [cnt, dd]
  | cons x a ih =>
    have ih := ih fun v hv => h v (List.mem_cons_of_mem _ hv)
    unfold cnt at ih ⊢
    rw [List.cons_append, dd_cons, dd_cons]
    have hx : x ∉ b := fun z => h x List.mem_cons_self z
    by_cases z : x ∈ a
    · rw [if_pos (List.mem_append_left _ z), if_pos z]; exact ih
    · rw [if_neg (fun q => (List.mem_append.mp q).elim z hx), if_neg z, List.length_cons, List.length_cons, ih]
      omega
theorem cnt_filter {a b : List α} : cnt (a ++ b) = cnt a + cnt (b.filter fun v => decide (v ∉ a)) := by
  rw [← cnt_app fun v h1 h2 => by
    rw [List.mem_filter] at h2
    exact (of_decide_eq_true h2.2) h1]
  refine cnt_congr fun v => ?_
  rw [List.mem_append, List.mem_append, List.mem_filter]
  by_cases z : v ∈ a
  · simp [z]
  · simp [z]
def mrg (f : P → α) (p q : P) : P → α := fun x => if f x = f q then f p else f x
def glue (f : P → α) (ps : List (P × P)) : P → α := ps.foldl (fun f r => mrg f r.1 r.2) f
theorem glue_cons (f : P → α) (r : P × P) (ps : List (P × P)) : glue f (r :: ps) = glue (mrg f r.1 r.2) ps := rfl
inductive EG (f : P → α) (ps : List (P × P)) : P → P → Prop
  | ker {x y : P} : f x = f y → EG f ps x y
  | pr {x y : P} : (x, y) ∈ ps → EG f ps x y
  | sym {x y : P} : EG f ps x y → EG f ps y x
  | tr {x y z : P} : EG f ps x y → EG f ps y z → EG f ps x z
theorem mrg_ker {f : P → α} {p q x y : P} (h : f x = f y) : mrg f p q x = mrg f p q y := by
  unfold mrg
  rw [h]
theorem mrg_pq (f : P → α) (p q : P) : mrg f p q p = mrg f p q q := by
  unfold mrg
  rw [if_pos (rfl : f q = f q)]
  split <;> rfl
theorem glue_ker {x y : P} : ∀ {ps : List (P × P)} {f : P → α}, f x = f y → glue f ps x = glue f ps y
  | [], _, h => h
  | r :: ps, f, h => glue_ker (ps := ps) (mrg_ker h)
theorem glue_pr {x y : P} : ∀ {ps : List (P × P)} {f : P → α}, (x, y) ∈ ps → glue f ps x = glue f ps y
  | r :: ps, f, h => by
    rcases List.mem_cons.mp h with e | h
    · subst e
      exact glue_ker (ps := ps) (f := mrg f x y) (mrg_pq f x y)
    · exact glue_pr (ps := ps) h
theorem mrg_ke {S : P → Prop} {f : P → α} {g : P → β} (h : KE S f g) {p q : P} (hp : S p) (hq : S q) : KE S (mrg f p q) (mrg g p q) := fun x y hx hy => by
  have a := h x q hx hq
  have b := h y q hy hq
  have c := h x y hx hy
  have d := h p y hp hy
  have e := h x p hx hp
  unfold mrg
  by_cases z1 : f x = f q
  · rw [if_pos z1, if_pos (a.mp z1)]
    by_cases z2 : f y = f q
    · rw [if_pos z2, if_pos (b.mp z2)]
      exact ⟨fun _ => rfl, fun _ => rfl⟩
    · rw [if_neg z2, if_neg (fun z => z2 (b.mpr z))]
      exact d
  · rw [if_neg z1, if_neg (fun z => z1 (a.mpr z))]
    by_cases z2 : f y = f q
    · rw [if_pos z2, if_pos (b.mp z2)]
      exact e
    · rw [if_neg z2, if_neg (fun z => z2 (b.mpr z))]
      exact c
theorem glue_ke {S : P → Prop} : ∀ {ps : List (P × P)} {f : P → α} {g : P → β}, KE S f g → (∀ r ∈ ps, S r.1 ∧ S r.2) → KE S (glue f ps) (glue g ps)
  | [], _, _, h, _ => h
  | r :: ps, _, _, h, hs => glue_ke (ps := ps) (mrg_ke h (hs r List.mem_cons_self).1 (hs r List.mem_cons_self).2) fun r hr => hs r (List.mem_cons_of_mem _ hr)
theorem mrg_eqOn {S : P → Prop} {f g : P → α} (h : ∀ x, S x → f x = g x) {p q : P} (hp : S p) (hq : S q) : ∀ x, S x → mrg f p q x = mrg g p q x := fun x hx => by
  unfold mrg
  rw [h x hx, h q hq, h p hp]
theorem glue_eqOn {S : P → Prop} : ∀ {ps : List (P × P)} {f g : P → α}, (∀ x, S x → f x = g x) → (∀ r ∈ ps, S r.1 ∧ S r.2) → ∀ x, S x → glue f ps x = glue g ps x
  | [], _, _, h, _ => h
  | r :: ps, _, _, h, hs => glue_eqOn (ps := ps) (mrg_eqOn h (hs r List.mem_cons_self).1 (hs r List.mem_cons_self).2) fun r hr => hs r (List.mem_cons_of_mem _ hr)
end
end FM
end
section
set_option linter.all false
namespace FM
section
variable {c : Nat}
/-- points of some figures: which one, bottom or top, the place -/
abbrev Pt (c : Nat) := Nat × Bool × Fin c
abbrev P1 (c : Nat) := Bool × Fin c
abbrev Fg (c : Nat) := P1 c → Nat
def lab (F : Nat → Fg c) : Pt c → Nat × Nat := fun x => (x.1, F x.1 x.2)
def prs (c j k : Nat) : List (Pt c × Pt c) := (List.finRange c).map fun i => ((j, true, i), (k, false, i))
def side (c : Nat) (s : Bool) : List (P1 c) := (List.finRange c).map fun i => (s, i)
def pts1 (c : Nat) : List (P1 c) := side c false ++ side c true
def blk (j : Nat) : List (Pt c) := (pts1 c).map fun x => (j, x)
theorem mem_pts1 (x : P1 c) : x ∈ pts1 c := by
  obtain ⟨s, i⟩ := x
  unfold pts1 side
  cases s
  · exact List.mem_append_left _ (List.mem_map.mpr ⟨i, List.mem_finRange i, rfl⟩)
  · exact List.mem_append_right _ (List.mem_map.mpr ⟨i, List.mem_finRange i, rfl⟩)
theorem mem_blk {j : Nat} {x : Pt c} : x ∈ blk j ↔ x.1 = j := by
  unfold blk
  rw [List.mem_map]
  exact ⟨fun ⟨y, _, e⟩ => by rw [← e], fun e => ⟨x.2, mem_pts1 _, by rw [← e]⟩⟩
theorem mem_prs {j k : Nat} {r : Pt c × Pt c} : r ∈ prs c j k ↔ ∃ i, r = ((j, true, i), (k, false, i)) := by
  unfold prs
  rw [List.mem_map]
  exact ⟨fun ⟨i, _, e⟩ => ⟨i, e.symm⟩, fun ⟨i, e⟩ => ⟨i, List.mem_finRange i, e.symm⟩⟩
def two (A B : Fg c) : Nat → Fg c := fun j => if j = 0 then A else B
def pts2 (c : Nat) : List (Pt c) := blk 0 ++ blk 1
theorem mem_pts2 {x : Pt c} : x ∈ pts2 c ↔ x.1 = 0 ∨ x.1 = 1 := by
  unfold pts2
  rw [List.mem_append, mem_blk, mem_blk]
def T2 (A B : Fg c) : Pt c → Nat × Nat := glue (lab (two A B)) (prs c 0 1)
/-- the points that stay -/
def out (x : P1 c) : Pt c := (if x.1 = true then 1 else 0, x)
def UP (A B : Fg c) : P1 c → Nat × Nat := fun x => T2 A B (out x)
def AL (A B : Fg c) : Nat := cnt ((pts2 c).map (T2 A B))
def nU (A B : Fg c) : Nat := cnt ((pts1 c).map (UP A B))
def LEFT (A B : Fg c) : Nat := AL A B - nU A B
def KF {α β : Type} (A : P1 c → α) (B : P1 c → β) : Prop := ∀ x y, A x = A y ↔ B x = B y
theorem out_in (x : P1 c) : out x ∈ pts2 c := by
  rw [mem_pts2]
  unfold out
  cases x.1 <;> simp
theorem prs_in2 {j k : Nat} (hj : j = 0 ∨ j = 1) (hk : k = 0 ∨ k = 1) : ∀ r ∈ prs c j k, r.1 ∈ pts2 c ∧ r.2 ∈ pts2 c := fun r hr => by
  obtain ⟨i, rfl⟩ := mem_prs.mp hr
  exact ⟨mem_pts2.mpr hj, mem_pts2.mpr hk⟩
end
end FM
end
section
set_option linter.all false
namespace FM
section
variable {c : Nat}
def cls (c : Nat) : List (P1 c × P1 c) := (List.finRange c).map fun i => ((false, i), (true, i))
def ST (c : Nat) : Fg c := fun x => x.2.val
end
end FM
end
section
set_option linter.all false
namespace FM
section
variable {α β P : Type} [DecidableEq α] [DecidableEq β]
def ren1 (s : List α × List Nat) (x : α) : List α × List Nat := (if x ∈ s.1 then s.1 else s.1 ++ [x], s.2 ++ [(if x ∈ s.1 then s.1 else s.1 ++ [x]).idxOf x])
def renF (l : List α) : List α × List Nat := l.foldl ren1 ([], [])
def renum (l : List α) : List Nat := (renF l).2
def seen (l : List α) : List α := (renF l).1
theorem ren_ke {f : P → α} {g : P → β} {S : P → Prop} (h : KE S f g) : ∀ (pts zs : List P) (F : List Nat), (∀ x ∈ pts, S x) → (∀ x ∈ zs, S x) → ∃ ws : List P, (∀ x ∈ ws, S x) ∧ ((pts.map f).foldl ren1 (zs.map f, F)).1 = ws.map f ∧ ((pts.map g).foldl ren1 (zs.map g, F)).1 = ws.map g ∧ ((pts.map f).foldl ren1 (zs.map f, F)).2 = ((pts.map g).foldl ren1 (zs.map g, F)).2
  | [], zs, F, _, hz => ⟨zs, hz, rfl, rfl, rfl⟩
  | p :: pts, zs, F, hp, hz => by
    have sp := hp p List.mem_cons_self
    have hp' : ∀ x ∈ pts, S x := fun x hx => hp x (List.mem_cons_of_mem _ hx)
    have e : f p ∈ zs.map f ↔ g p ∈ zs.map g := by
      rw [List.mem_map, List.mem_map]
      exact ⟨fun ⟨q, hq, z⟩ => ⟨q, hq, (h q p (hz q hq) sp).mp z⟩, fun ⟨q, hq, z⟩ => ⟨q, hq, (h q p (hz q hq) sp).mpr z⟩⟩
    have ix : ∀ ws : List P, (∀ x ∈ ws, S x) → (ws.map f).idxOf (f p) = (ws.map g).idxOf (g p) := fun ws hw => by
      induction ws with
      | nil => rfl
      | cons w ws ih =>
        have ih := ih fun x hx => hw x (List.mem_cons_of_mem _ hx)
        have k := h w p (hw w List.mem_cons_self) sp
        rw [List.map_cons, List.map_cons, List.idxOf_cons, List.idxOf_cons, ih]
        by_cases z : f w = f p
        · have z2 := k.mp z
          simp [z, z2]
        · have z2 : ¬ g w = g p := fun q => z (k.mpr q)
          have e1 : (f w == f p) = false := by simpa using z
          have e2 : (g w == g p) = false := by simpa using z2
          rw [e1, e2]
    by_cases z : f p ∈ zs.map f
    · have z2 := e.mp z
      obtain ⟨ws, h1, h2, h3, h4⟩ := ren_ke h pts zs (F ++ [(zs.map f).idxOf (f p)]) hp' hz
      refine ⟨ws, h1, ?_, ?_, ?_⟩
      · rw [List.map_cons, List.foldl_cons, ren1, if_pos z]; exact h2
      · rw [List.map_cons, List.foldl_cons, ren1, if_pos z2, ← ix zs hz]; exact h3
      · rw [List.map_cons, List.map_cons, List.foldl_cons, List.foldl_cons, ren1, ren1, if_pos z, if_pos z2, ← ix zs hz]; exact h4
    · have z2 : ¬ g p ∈ zs.map g := fun q => z (e.mpr q)
      have hz2 : ∀ x ∈ zs ++ [p], S x := fun x hx => by
        rcases List.mem_append.mp hx with hx | hx
        · exact hz x hx
        · rw [List.mem_singleton.mp hx]; exact sp
      have m1 : zs.map f ++ [f p] = (zs ++ [p]).map f := by rw [List.map_append]; rfl
      have m2 : zs.map g ++ [g p] = (zs ++ [p]).map g := by rw [List.map_append]; rfl
      obtain ⟨ws, h1, h2, h3, h4⟩ := ren_ke h pts (zs ++ [p]) (F ++ [((zs ++ [p]).map f).idxOf (f p)]) hp' hz2
      refine ⟨ws, h1, ?_, ?_, ?_⟩
      · rw [List.map_cons, List.foldl_cons, ren1, if_neg z, m1]; exact h2
      · rw [List.map_cons, List.foldl_cons, ren1, if_neg z2, m2, ← ix _ hz2]; exact h3
      · rw [List.map_cons, List.map_cons, List.foldl_cons, List.foldl_cons, ren1, ren1, if_neg z, if_neg z2, m1, m2, ← ix _ hz2]; exact h4
theorem renum_ke {f : P → α} {g : P → β} {pts : List P} (h : KE (· ∈ pts) f g) : renum (pts.map f) = renum (pts.map g) := by
  obtain ⟨ws, _, _, _, e⟩ := ren_ke h pts [] [] (fun _ hx => hx) (fun _ hx => nomatch hx)
  exact e
theorem idx_app {S T : List α} {x : α} (h : x ∈ S) : (S ++ T).idxOf x = S.idxOf x := by rw [List.idxOf_append, if_pos h]
theorem ren_run : ∀ (l S : List α) (F : List Nat), S.Nodup → ∃ T : List α, (l.foldl ren1 (S, F)) = (S ++ T, F ++ l.map fun x => (S ++ T).idxOf x) ∧ (S ++ T).Nodup ∧ ∀ v, v ∈ S ++ T ↔ v ∈ S ∨ v ∈ l
  | [], S, F, nd => ⟨[], by simp, by simpa using nd, fun v => by simp⟩
  | x :: l, S, F, nd => by
    rw [List.foldl_cons, show ren1 (S, F) x = ((if x ∈ S then S else S ++ [x]), F ++ [(if x ∈ S then S else S ++ [x]).idxOf x]) from rfl]
    by_cases z : x ∈ S
    · rw [if_pos z]
      obtain ⟨T, h1, h2, h3⟩ := ren_run l S (F ++ [S.idxOf x]) nd
      refine ⟨T, ?_, h2, fun v => ?_⟩
      · rw [h1, List.map_cons, List.append_assoc, idx_app z]
        rfl
      · rw [h3, List.mem_cons]
        constructor
        · rintro (h | h)
          · exact .inl h
          · exact .inr (.inr h)
        · rintro (h | h | h)
          · exact .inl h
          · exact .inl (h ▸ z)
          · exact .inr h
    · rw [if_neg z]
      have nd2 : (S ++ [x]).Nodup := by
        rw [List.nodup_append]
        exact ⟨nd, by simp, fun a ha b hb => by
          rw [List.mem_singleton.mp hb]
          exact fun e => z (e ▸ ha)⟩
      have hx : x ∈ S ++ [x] := List.mem_append_right _ (List.mem_singleton.mpr rfl)
      obtain ⟨T, h1, h2, h3⟩ := ren_run l (S ++ [x]) (F ++ [(S ++ [x]).idxOf x]) nd2
      refine ⟨x :: T, ?_, by simpa using h2, fun v => ?_⟩
      · rw [h1, List.map_cons, List.append_assoc F]
        have e : S ++ [x] ++ T = S ++ x :: T := by simp
        rw [← e, ← idx_app (T := T) hx]
        rfl
      · have e : S ++ [x] ++ T = S ++ x :: T := by simp
        rw [← e, h3, List.mem_append, List.mem_singleton, List.mem_cons, or_assoc]
theorem ren_all (l : List α) : renum l = l.map (fun x => (seen l).idxOf x) ∧ (seen l).Nodup ∧ ∀ v, v ∈ seen l ↔ v ∈ l := by
  obtain ⟨T, h1, h2, h3⟩ := ren_run l [] [] List.nodup_nil
  have e1 : seen l = T := congrArg Prod.fst h1
  have e2 : renum l = l.map (fun x => T.idxOf x) := congrArg Prod.snd h1
  rw [e1]
  exact ⟨e2, h2, fun v => by simpa using h3 v⟩
theorem renum_len (l : List α) : (renum l).length = l.length := by rw [(ren_all l).1, List.length_map]
theorem seen_len (l : List α) : (seen l).length = cnt l := by
  have h := ren_all l
  exact Nat.le_antisymm (len_le h.2.1 fun v hv => mem_dd.mpr ((h.2.2 v).mp hv)) (len_le (nodup_dd l) fun v hv => (h.2.2 v).mpr (mem_dd.mp hv))
theorem idx_inj {l : List α} {x y : α} (hx : x ∈ l) (h : l.idxOf x = l.idxOf y) : x = y := by
  have h1 : l.idxOf x < l.length := List.idxOf_lt_length_of_mem hx
  have h2 : l.idxOf y < l.length := h ▸ h1
  have e1 : l[l.idxOf x] = x := List.getElem_idxOf h1
  have e2 : l[l.idxOf y] = y := List.getElem_idxOf h2
  rw [← e1, ← e2]
  congr 1
theorem renum_lt {l : List α} {n : Nat} (h : n ∈ renum l) : n < cnt l := by
  rw [(ren_all l).1] at h
  obtain ⟨x, hx, rfl⟩ := List.mem_map.mp h
  rw [← seen_len]
  exact List.idxOf_lt_length_of_mem (((ren_all l).2.2 x).mpr hx)
theorem renum_idem (l : List α) : renum (renum l) = renum l := by
  have e := (ren_all l).1
  have k : KE (· ∈ l) (fun x => (seen l).idxOf x) (fun x : α => x) := fun x y hx hy => ⟨fun e => idx_inj (((ren_all l).2.2 _).mpr hx) e, fun e => by dsimp only; rw [show x = y from e]⟩
  have q := renum_ke k
  rw [← e, List.map_id'] at q
  exact q
end
section
variable {c : Nat} {α β : Type} [DecidableEq α] [DecidableEq β]
def fg (c : Nat) (xs : List Nat) : Fg c := fun x => xs.getD ((if x.1 = true then c else 0) + x.2.val) 0
def fgl (A : P1 c → α) : List Nat := renum ((pts1 c).map A)
structure Val (c : Nat) (xs : List Nat) : Prop where
  len : xs.length = 2 * c
  ren : renum xs = xs
theorem fin_map {γ : Type} (f : Nat → γ) (n : Nat) : (List.finRange n).map (fun i => f i.val) = (List.range n).map f := by
  apply List.ext_getElem
  · simp
  · intro i h1 h2
    simp
theorem pts1_len (c : Nat) : (pts1 c).length = 2 * c := by
  unfold pts1 side
  simp
  omega
theorem fg_list {xs : List Nat} (h : xs.length = 2 * c) : (pts1 c).map (fg c xs) = xs := by
  unfold pts1 side
  rw [List.map_append, List.map_map, List.map_map]
  have e1 : (List.finRange c).map (fg c xs ∘ fun i => (false, i)) = (List.range c).map fun i => xs.getD i 0 := by
    rw [← fin_map (fun i => xs.getD i 0)]
    refine List.map_congr_left fun i _ => ?_
    show xs.getD (0 + i.val) 0 = _
    rw [Nat.zero_add]
  have e2 : (List.finRange c).map (fg c xs ∘ fun i => (true, i)) = (List.range c).map fun i => xs.getD (c + i) 0 := by
    rw [← fin_map (fun i => xs.getD (c + i) 0)]
    rfl
  rw [e1, e2]
  apply List.ext_getElem
  · simp; omega
  · intro i h1 h2
    rw [List.getElem_append]
    split
    · rename_i h3
      have h4 : i < c := by simpa using h3
      simp [List.getElem?_eq_getElem h2]
    · rename_i h3
      have h4 : ¬ i < c := by simpa using h3
      have e : c + (i - c) = i := by omega
      simp [e, List.getElem?_eq_getElem h2]
theorem fgl_val (A : P1 c → α) : Val c (fgl A) := ⟨by unfold fgl; rw [renum_len, List.length_map, pts1_len], renum_idem _⟩
def uponL (c : Nat) (A B : List Nat) : List Nat := fgl (UP (fg c A) (fg c B))
def leftL (c : Nat) (A B : List Nat) : Nat := LEFT (fg c A) (fg c B)
def stL (c : Nat) : List Nat := fgl (ST c)
theorem upon_val (c : Nat) (A B : List Nat) : Val c (uponL c A B) := fgl_val _
theorem st_val (c : Nat) : Val c (stL c) := fgl_val _
theorem snocInd {γ : Type} {motive : List γ → Prop} (nil : motive []) (snoc : ∀ l x, motive l → motive (l ++ [x])) (l : List γ) : motive l := by
  have h : ∀ r : List γ, motive r.reverse := fun r => by
    induction r with
    | nil => exact nil
    | cons x r ih => rw [List.reverse_cons]; exact snoc _ _ ih
  have q := h l.reverse
  rwa [List.reverse_reverse] at q
def rowF (c : Nat) (s : List Nat × Nat) (ds : List (List Nat)) : List Nat × Nat := ds.foldl (fun s d => (uponL c s.1 d, s.2 + leftL c s.1 d)) s
def rowL (c : Nat) (ds : List (List Nat)) : List Nat × Nat := rowF c (stL c, 0) ds
theorem rowF_val {s : List Nat × Nat} {ds : List (List Nat)} (h : Val c s.1) : Val c (rowF c s ds).1 := by
  induction ds generalizing s with
  | nil => exact h
  | cons d ds ih => exact ih (s := (uponL c s.1 d, s.2 + leftL c s.1 d)) (upon_val c _ _)
end
end FM
end
section
set_option linter.all false
set_option maxRecDepth 100000
namespace FL
open PySem PySem.Spec PyProof.Rows L2 DL FM
def nI (n : Nat) : D := .int (n : Nat)
def nL (xs : List Nat) : List D := xs.map nI
abbrev lD (xs : List Nat) : D := .list (nL xs)
abbrev fD (xs : List Nat) : D := .tuple (nL xs)
theorem nL_len (xs : List Nat) : (nL xs).length = xs.length := List.length_map ..
theorem nL_get {xs : List Nat} {i : Nat} : (nL xs)[i]? = (xs[i]?).map nI := List.getElem?_map ..
theorem sl1000 {n : Nat} (h : n ≤ 1000) : n ≤ sizeLine := Nat.le_of_lt (small1000 h)
theorem atI_n {ds : List D} {i : Nat} : atI ds (i : Int) = ds[i]? := by
  unfold atI ixN
  rw [if_pos (by omega)]
  by_cases h : i < ds.length
  · rw [if_pos (by omega)]
    simp
  · rw [if_neg (by omega)]
    simp [List.getElem?_eq_none (by omega : ds.length ≤ i)]
theorem dIx_l {ds : List D} {i : Nat} : dIx (.list ds) (.int (i : Int)) = ds[i]? := atI_n
theorem nL_at {xs : List Nat} {i : Nat} (h : i < xs.length) : (nL xs)[i]? = some (nI (xs.getD i 0)) := by
  rw [nL_get, List.getElem?_eq_getElem h]
  simp [List.getD_eq_getElem?_getD, h]
theorem dEq_int {i j : Int} : dEq (.int i) (.int j) = some (.bool (decide (i = j))) := by
  unfold dEq
  rw [if_pos ⟨rfl, rfl⟩]
  simp [PyData.eqv]
  by_cases h : i = j <;> simp [h]
theorem dNe_int {i j : Int} : dNe (.int i) (.int j) = some (.bool (!decide (i = j))) := by
  unfold dNe
  rw [if_pos ⟨rfl, rfl⟩]
  simp [PyData.eqv]
  by_cases h : i = j <;> simp [h]
theorem bret {α β : Type} (a : α) (f : α → Tr β) : (Tr.ret a).bind f = f a := rfl
theorem ofS {α : Type} (a : α) : Tr.ofOpt (some a) = .ret a := rfl
theorem comp_all {tgt : FG} {t : FT} {fe : FE} {env : Ev} {γ : Type} {dd : γ → D} {g : γ → D} : ∀ (xs : List γ), (∀ x ∈ xs, ∃ env1, tgt (dd x) env = some env1 ∧ t env1 = .ret true ∧ fe env1 = .ret (g x)) → compD tgt t fe env (xs.map dd) = .ret (xs.map g)
  | [], _ => rfl
  | x :: xs, h => by
    obtain ⟨e1, h1, h2, h3⟩ := h x List.mem_cons_self
    rw [List.map_cons, List.map_cons, compD, h1]
    simp only [h2, bret, if_true, h3]
    rw [comp_all xs fun y hy => h y (List.mem_cons_of_mem _ hy)]
    rfl
theorem comp_filter {tgt : FG} {t : FT} {fe : FE} {env : Ev} {γ : Type} {dd : γ → D} {g : γ → D} {p : γ → Bool} : ∀ (xs : List γ), (∀ x ∈ xs, ∃ env1, tgt (dd x) env = some env1 ∧ t env1 = .ret (p x) ∧ (p x = true → fe env1 = .ret (g x))) → compD tgt t fe env (xs.map dd) = .ret ((xs.filter p).map g)
  | [], _ => rfl
  | x :: xs, h => by
    obtain ⟨e1, h1, h2, h3⟩ := h x List.mem_cons_self
    have ih := comp_filter xs fun y hy => h y (List.mem_cons_of_mem _ hy)
    rw [List.map_cons, compD, h1]
    simp only [h2, bret]
    by_cases z : p x = true
    · rw [if_pos z, h3 z, bret, ih, bret, List.filter_cons_of_pos z]
      rfl
    · rw [if_neg z, ih, List.filter_cons_of_neg z]
theorem end_all {tgt : FG} {t : FT} {fe : FE} {env : Ev} {γ : Type} {dd : γ → D} {g : γ → D} {xs : List γ} (hz : xs.length ≤ 1000) (h : ∀ x ∈ xs, ∃ env1, tgt (dd x) env = some env1 ∧ t env1 = .ret true ∧ fe env1 = .ret (g x)) : endComp tgt t fe env (xs.map dd) = .ret (.list (xs.map g)) := by
  unfold endComp
  rw [if_pos (by rw [List.length_map]; exact sl1000 hz), comp_all xs h]
  rfl
theorem end_filter {tgt : FG} {t : FT} {fe : FE} {env : Ev} {γ : Type} {dd : γ → D} {g : γ → D} {p : γ → Bool} {xs : List γ} (hz : xs.length ≤ 1000) (h : ∀ x ∈ xs, ∃ env1, tgt (dd x) env = some env1 ∧ t env1 = .ret (p x) ∧ (p x = true → fe env1 = .ret (g x))) : endComp tgt t fe env (xs.map dd) = .ret (.list ((xs.filter p).map g)) := by
  unfold endComp
  rw [if_pos (by rw [List.length_map]; exact sl1000 hz), comp_filter xs h]
  rfl
theorem rng_n (n : Nat) : rngD 0 n = (List.range n).map nI := by
  unfold rngD nI
  refine List.map_congr_left fun i _ => ?_
  rw [Int.zero_add]
theorem rngOf_n {n : Nat} (h : n ≤ 1000) : rngOf [.int (n : Nat)] = some (0, n) := by
  have e : ok62 (n : Int) = true := decide_eq_true (by omega)
  simp only [rngOf, if_pos e]
  congr 1
theorem eqv_int {i j : Int} : PyData.eqv (.int i) (.int j) = decide (i = j) := by
  simp [PyData.eqv]
  by_cases h : i = j <;> simp [h]
theorem memD_n (x : Nat) : ∀ xs : List Nat, memD (nI x) (nL xs) = decide (x ∈ xs)
  | [] => rfl
  | y :: xs => by
    have ih := memD_n x xs
    unfold memD at ih ⊢
    unfold nL at ih ⊢
    rw [List.map_cons, List.any_cons, ih]
    unfold nI
    rw [eqv_int]
    by_cases h : y = x
    · subst h; simp
    · have h1 : ¬ ((y : Int) = (x : Int)) := by omega
      have h2 : ¬ (x = y) := fun e => h e.symm
      simp [h1, h2]
theorem flat_n (xs : List Nat) : (nL xs).all flatD = true := by
  unfold nL
  rw [List.all_map]
  exact List.all_eq_true.mpr fun _ _ => rfl
theorem dIn_n {neg : Bool} {x : Nat} {xs : List Nat} : dIn neg (nI x) (lD xs) = some (.bool (if neg = true then !decide (x ∈ xs) else decide (x ∈ xs))) := by
  unfold lD dIn
  dsimp only
  rw [if_pos ⟨rfl, flat_n xs⟩, memD_n]
theorem find_n (x : Nat) : ∀ xs : List Nat, (nL xs).findIdx (fun z => PyData.eqv z (nI x)) = xs.idxOf x
  | [] => rfl
  | y :: xs => by
    have ih := find_n x xs
    unfold nL at ih ⊢
    rw [List.map_cons, List.findIdx_cons, List.idxOf_cons, ih]
    unfold nI
    rw [eqv_int]
    by_cases h : y = x
    · subst h; simp
    · have h1 : ¬ ((y : Int) = (x : Int)) := by omega
      have h2 : (y == x) = false := by simpa using h
      simp [h1, h2]
theorem dIdx_n {x : Nat} {xs : List Nat} (h : x ∈ xs) : dIdx (nL xs) (nI x) = some (nI (xs.idxOf x)) := by
  unfold dIdx
  rw [if_pos ⟨rfl, flat_n xs⟩, if_pos (by rw [memD_n]; exact decide_eq_true h), find_n]
  rfl
def dz : List Nat → Nat → List (D × D)
  | [], _ => []
  | x :: r, i => (nI x, nI i) :: dz r (i + 1)
theorem keyOf_n (x : Nat) : DL.keyOf (nI x) = some (.inl (x : Int)) := rfl
end FL
namespace FL
open PySem PySem.Spec PyProof.Rows L2 DL FM
/-- a loop by an invariant that counts its turns -/
theorem for_k {tgt : FG} {body : FS} {γ σ : Type} {dd : γ → D} (I : Nat → σ → Ev → Prop) (step : σ → γ → σ) (all : List γ) (k : ∀ i s x env, all[i]? = some x → I i s env → ∃ env1 env2, tgt (dd x) env = some env1 ∧ body env1 = .ret (.nx env2) ∧ I (i + 1) (step s x) env2) :
    ∀ (xs : List γ) (i : Nat) (s : σ) (env : Ev), all.drop i = xs → I i s env → ∃ env', forD tgt body (xs.map dd) env = .ret (.nx env') ∧ I (i + xs.length) (xs.foldl step s) env'
  | [], i, s, env, _, h => ⟨env, rfl, h⟩
  | x :: xs, i, s, env, e, h => by
    have hx : all[i]? = some x := by
      have : (all.drop i)[0]? = some x := by rw [e]; rfl
      rwa [List.getElem?_drop, Nat.add_zero] at this
    obtain ⟨e1, e2, h1, h2, h3⟩ := k i s x env hx h
    obtain ⟨e3, h4, h5⟩ := for_k I step all k xs (i + 1) (step s x) e2 (by rw [← List.drop_drop, e]; rfl) h3
    refine ⟨e3, ?_, ?_⟩
    · rw [List.map_cons, forD, h1]
      simp only [h2, bret]
      exact h4
    · rw [List.length_cons, show i + (xs.length + 1) = i + 1 + xs.length by omega]
      exact h5
theorem for_all {tgt : FG} {body : FS} {γ σ : Type} {dd : γ → D} (I : Nat → σ → Ev → Prop) (step : σ → γ → σ) {xs : List γ} {s : σ} {env : Ev} (h : I 0 s env) (k : ∀ i s x env, xs[i]? = some x → I i s env → ∃ env1 env2, tgt (dd x) env = some env1 ∧ body env1 = .ret (.nx env2) ∧ I (i + 1) (step s x) env2) :
    ∃ env', forD tgt body (xs.map dd) env = .ret (.nx env') ∧ I xs.length (xs.foldl step s) env' := by
  have q := for_k I step xs k xs 0 s env rfl h
  rwa [Nat.zero_add] at q
end FL
end
section
set_option linter.all false
set_option maxRecDepth 100000
namespace FL
open PySem PySem.Spec PyProof.Rows L2 DL
def d_WORDS : D := (.tuple [(.str "cut"), (.str "hook"), (.str "join"), (.str "swap")])
abbrev m_law_draw := fDraw
abbrev m_points_by_piece := fPieces
def m_is_between : List Slot → Tr D := fnF 3 .v (sRet (vAnd (eTy false "int" (eVar 0)) (eChain dLe dLe (eVar 1) (eVar 0) (eVar 2))))
def m_need_cords : List Slot → Tr D := fnF 1 .v (sIf (bNot (tt (eCall m_is_between (aVal (eVar 0) (aVal (eC (.int 1)) (aVal (eC (.int 5)) aNil)))))) (fun _ => .fail) sNext)
def m_places_for : List Slot → Tr D := fnF 2 .v (sSeq (sIf (tt (e2 dEq (eVar 1) (eC (.str "cut")))) (sRet (eVar 0)) sNext) (sRet (e2 dSub (eVar 0) (eC (.int 1)))))
def m_is_deed : List Slot → Tr D := fnF 4 .v (sSeq (sIf (bOr (fTy true "tuple" (eVar 1)) (tt (e2 dNe (eCB dLenA (lCons (eVar 1) lNil)) (eC (.int 2))))) (sRet (eC (.bool false))) sNext) (sSeq (sAsg (eVar 1) (gT 2 (gsCons (gN 2) (gsCons (gN 3) gsNil)))) (sSeq (sIf (bOr (fTy true "str" (eVar 2)) (tt (e2 (dIn true) (eVar 2) (eC FL.d_WORDS)))) (sRet (eC (.bool false))) sNext) (sRet (eCall m_is_between (aVal (eVar 3) (aVal (eC (.int 0)) (aVal (e2 dSub (eCall m_places_for (aVal (eVar 0) (aVal (eVar 2) aNil))) (eC (.int 1))) aNil))))))))
def m_is_tuple_of_at_most : List Slot → Tr D := fnF 2 .v (sRet (vAnd (eTy false "tuple" (eVar 0)) (e2 dLe (eCB dLenA (lCons (eVar 0) lNil)) (eVar 1))))
def m_need_row : List Slot → Tr D := fnF 4 .v (sSeq (sIf (bNot (tt (eCall m_is_tuple_of_at_most (aVal (eVar 1) (aVal (eC (.int 40)) aNil))))) (fun _ => .fail) sNext) (sForE (lCons (eVar 1) lNil) (gT 2 (gsCons (gN 2) (gsCons (gN 3) gsNil))) (sIf (bNot (tt (eCall m_is_deed (aVal (eVar 0) (aVal (eVar 3) aNil))))) (fun _ => .fail) sNext)))
def m_renumbered : List Slot → Tr D := fnF 4 .v (sSeq (sSetO 1 eDNew) (sSeq (sSetO 2 (eLst lNil)) (sSeq (sForS (eVar 0) (gN 3) (sSeq (sIf (tt (eDIn true 1 (eVar 3))) (sDPutD 1 (eVar 3) (eDLen 1)) sNext) (sApp 2 (eDGet 1 (eVar 3))))) (sRet (eCB dTuple (lCons (eVarB 2) lNil))))))
def m_merged : List Slot → Tr D := fnF 4 .v (sRet (eCompS (eVar 0) (gN 3) fYes (eIf (tt (e2 dEq (eVar 3) (eVar 2))) (eVar 1) (eVar 3)) [3]))
def m_straight_figure : List Slot → Tr D := fnF 1 .v (sRet (e2 dAddA (eRgT (lCons (eVar 0) lNil)) (eRgT (lCons (eVar 0) lNil))))
def m_figure_of_deed : List Slot → Tr D := fnF 7 .v (sSeq (sAsg (eVar 1) (gT 2 (gsCons (gN 5) (gsCons (gN 6) gsNil)))) (sSeq (sSetO 2 (eCB dList (lCons (eCall m_straight_figure (aVal (eVar 0) aNil)) lNil))) (sSeq (sSet 3 (eVar 6)) (sSeq (sSet 4 (e2 dAddA (eVar 0) (eVar 6))) (sSeq (sIf (tt (e2 dEq (eVar 5) (eC (.str "cut")))) (sSetIx 2 (eVar 4) (eVar 0)) sNext) (sSeq (sIf (tt (e2 dEq (eVar 5) (eC (.str "hook")))) (sSeq (sSetIx 2 (e2 dAddA (eVar 3) (eC (.int 1))) (e2 dIx (eVarB 2) (eVar 3))) (sSetIx 2 (eVar 4) (e2 dIx (eVarB 2) (e2 dAddA (eVar 4) (eC (.int 1)))))) sNext) (sSeq (sIf (tt (e2 dEq (eVar 5) (eC (.str "join")))) (sSeq (sSetIx 2 (e2 dAddA (eVar 3) (eC (.int 1))) (e2 dIx (eVarB 2) (eVar 3))) (sSetIx 2 (e2 dAddA (eVar 4) (eC (.int 1))) (e2 dIx (eVarB 2) (eVar 4)))) sNext) (sSeq (sIf (tt (e2 dEq (eVar 5) (eC (.str "swap")))) (sSetIx2 2 (eTup (lCons (e2 dIx (eVarB 2) (e2 dAddA (eVar 4) (eC (.int 1)))) (lCons (e2 dIx (eVarB 2) (eVar 4)) lNil))) (eVar 4) (e2 dAddA (eVar 4) (eC (.int 1)))) sNext) (fun env => (sRet (eCall m_renumbered (aVal (eVar 2) aNil))) (frz 2 env))))))))))
def m_law_of : List Slot → Tr D := fnF 2 .v (sRet (e2 dIx (eVar 1) (eCall m_law_draw (aOrc 0 (aVal (eCB dLenA (lCons (eVar 1) lNil)) aNil)))))
def m_law_like : List Slot → Tr D := fnF 2 .v (sRet (e2 dEq (eCB dRepr (lCons (eVar 0) lNil)) (eCB dRepr (lCons (eVar 1) lNil))))
def m_law_named : List Slot → Tr D := fnF 4 .v (sSeq (sPar true true 2 3 (eLst lNil) (eLst lNil)) (sSeq (sForS (eVar 0) (gN 1) (sSeq (sIf (tt (e2 (dIn true) (eVar 1) (eVarB 2))) (sApp 2 (eVar 1)) sNext) (sApp 3 (eIdx (eVarB 2) (eVar 1))))) (sRet (eCB dTuple (lCons (eVarB 3) lNil)))))
def m_law_straight : List Slot → Tr D := fnF 1 .v (sRet (eCB dTuple (lCons (e2 dMulA (eRgL (lCons (eVar 0) lNil)) (eC (.int 2))) lNil)))
def m_law_deed : List Slot → Tr D := fnF 5 .v (sSeq (sAsg (eVar 1) (gT 2 (gsCons (gN 3) (gsCons (gN 4) gsNil)))) (sSeq (sSetO 2 (e2 dCat (eRgL (lCons (eVar 0) lNil)) (eRgL (lCons (eVar 0) lNil)))) (sSeq (sIf (tt (e2 dEq (eVar 3) (eC (.str "cut")))) (sSetIx 2 (e2 dAddA (eVar 0) (eVar 4)) (eVar 0)) (sIf (tt (e2 dEq (eVar 3) (eC (.str "hook")))) (sSeq (sSetIx 2 (e2 dAddA (eVar 4) (eC (.int 1))) (eVar 4)) (sSeq (sSetIx 2 (e2 dAddA (eVar 0) (eVar 4)) (eVar 0)) (sSetIx 2 (e2 dAddA (e2 dAddA (eVar 0) (eVar 4)) (eC (.int 1))) (eVar 0)))) (sIf (tt (e2 dEq (eVar 3) (eC (.str "swap")))) (sSetIx2 2 (eTup (lCons (e2 dAddA (eVar 4) (eC (.int 1))) (lCons (eVar 4) lNil))) (e2 dAddA (eVar 0) (eVar 4)) (e2 dAddA (e2 dAddA (eVar 0) (eVar 4)) (eC (.int 1)))) (sSeq (sSetIx 2 (e2 dAddA (eVar 4) (eC (.int 1))) (eVar 4)) (sSeq (sSetIx 2 (e2 dAddA (eVar 0) (eVar 4)) (eVar 4)) (sSetIx 2 (e2 dAddA (e2 dAddA (eVar 0) (eVar 4)) (eC (.int 1))) (eVar 4))))))) (fun env => (sRet (eCall m_law_named (aVal (eVar 2) aNil))) (frz 2 env)))))
def m_law_upon : List Slot → Tr D := fnF 11 .v (sSeq (sSet 3 (e2 dAddA (eCompS (eVar 1) (gN 10) fYes (eVar 10) [10]) (eCompS (eVar 2) (gN 10) fYes (e2 dAddA (e2 dMul (eC (.int 2)) (eVar 0)) (eVar 10)) [10]))) (sSeq (sForR (lCons (eVar 0) lNil) (gN 4) (sSeq (sAsg (eTup (lCons (e2 dIx (eVar 3) (e2 dAddA (e2 dMul (eC (.int 2)) (eVar 0)) (eVar 4))) (lCons (e2 dIx (eVar 3) (e2 dAddA (eVar 0) (eVar 4))) lNil))) (gT 2 (gsCons (gN 8) (gsCons (gN 9) gsNil)))) (sIf (tt (e2 dNe (eVar 8) (eVar 9))) (sSet 3 (eCompS (eVar 3) (gN 10) fYes (eIf (tt (e2 dEq (eVar 10) (eVar 8))) (eVar 9) (eVar 10)) [10])) sNext))) (sSeq (sSet 5 (e2 dAddA (eSl dSlA (eVar 3) oNone (oSome (eVar 0))) (eSl dSlA (eVar 3) (oSome (e2 dMul (eC (.int 3)) (eVar 0))) oNone))) (sSeq (sSet 6 (eCompS (eSl dSlA (eVar 3) (oSome (eVar 0)) (oSome (e2 dMul (eC (.int 2)) (eVar 0)))) (gN 10) (tt (e2 (dIn true) (eVar 10) (eVar 5))) (eVar 10) [10])) (sSeq (sSet 7 (eCompR (lCons (eCB dLenA (lCons (eVar 6) lNil)) lNil) (gN 4) (tt (e2 (dIn true) (e2 dIx (eVar 6) (eVar 4)) (eSl dSlA (eVar 6) oNone (oSome (eVar 4))))) (e2 dIx (eVar 6) (eVar 4)) [4])) (sRet (eTup (lCons (eCall m_law_named (aVal (eVar 5) aNil)) (lCons (eCB dLenA (lCons (eVar 7) lNil)) lNil)))))))))
def m_law_figure : List Slot → Tr D := fnF 6 .v (sSeq (sPar false false 3 4 (eCall m_law_straight (aVal (eVar 0) aNil)) (eC (.int 0))) (sSeq (sForS (eVar 1) (gN 2) (sSeq (sAsg (eCall m_law_upon (aVal (eVar 0) (aVal (eVar 3) (aVal (eCall m_law_deed (aVal (eVar 0) (aVal (eVar 2) aNil))) aNil)))) (gT 2 (gsCons (gN 3) (gsCons (gN 5) gsNil)))) (sSet 4 (e2 dAddA (eVar 4) (eVar 5))))) (sRet (eTup (lCons (eVar 3) (lCons (eVar 4) lNil))))))
def m_law_deeds : List Slot → Tr D := fnF 5 .v (sSeq (sSet 2 (eLst lNil)) (sSeq (sForS (eVar 1) (gN 3) (sSet 2 (e2 dAddA (eVar 2) (eCompR (lCons (e2 dSub (eVar 0) (eCB dInt1 (lCons (e2 dNe (eVar 3) (eC (.str "cut"))) lNil))) lNil) (gN 4) fYes (eTup (lCons (eVar 3) (lCons (eVar 4) lNil))) [4])))) (sRet (eVar 2))))
def m_law_row : List Slot → Tr D := fnF 6 .v (sSeq (sSet 4 (eCall m_law_deeds (aVal (eVar 1) (aVal (eVar 2) aNil)))) (sSeq (sIf (tt (e2 dEq (eVar 4) (eLst lNil))) (sRet (eTup lNil)) sNext) (sRet (eCB dTuple (lCons (eCompR (lCons (eCall m_law_draw (aOrc 0 (aVal (e2 dAddA (eVar 3) (eC (.int 1))) aNil))) lNil) (gN 5) fYes (eCall m_law_of (aOrc 0 (aVal (eVar 4) aNil))) [5]) lNil)))))
end FL
end
section
set_option linter.all false
set_option maxRecDepth 100000
namespace FL
open PySem PySem.Spec PyProof.Rows L2 DL FM
theorem v_between (x a b : Int) : m_is_between [.val (.int x), .val (.int a), .val (.int b)] = .ret (.bool (decide (a ≤ x) && decide (x ≤ b))) := by
  simp only [m_is_between, fnF, startE, sSeq, sSet, sSetO, sRet, sExpr, sIf, sNext, sAsg, sForR, sForS, sForE, e2, eC, eVar, eVarB, eCB, eCall, aVal, aNil, lCons, lNil, eTup, eLst, eIf, eTy, fTy, eSl, oNone, oSome, eChain, vAnd, vOr, vNot, bNot, bAnd, bOr, tt, fTru, gN, gT, gsCons, gsNil, bret, ofS, Tr.ofOpt, List.map_cons, List.map_nil, List.length_cons, List.length_nil, List.cons_append, List.nil_append, List.replicate_succ, List.replicate_zero, List.getElem?_cons_zero, List.getElem?_cons_succ, List.set_cons_zero, List.set_cons_succ, Option.bind_some, Option.map_some, if_true, tyName, Nat.reduceSub, Nat.reduceAdd, List.replicate]
  by_cases h : a ≤ x <;> simp [dInt, h, bret, ofS, Tr.ofOpt]
theorem v_need_cords {c : Nat} (h1 : 1 ≤ c) (h5 : c ≤ 5) : m_need_cords [.val (nI c)] = .ret .none := by
  have e : m_is_between [.val (nI c), .val (.int 1), .val (.int 5)] = .ret (.bool true) := by
    unfold nI
    rw [v_between, decide_eq_true (show (1 : Int) ≤ (c : Int) by omega), decide_eq_true (show (c : Int) ≤ 5 by omega)]
    rfl
  simp only [m_need_cords, fnF, startE, sSeq, sSet, sSetO, sRet, sExpr, sIf, sNext, sAsg, sForR, sForS, sForE, e2, eC, eVar, eVarB, eCB, eCall, aVal, aNil, lCons, lNil, eTup, eLst, eIf, eTy, fTy, eSl, oNone, oSome, eChain, vAnd, vOr, vNot, bNot, bAnd, bOr, tt, fTru, gN, gT, gsCons, gsNil, bret, ofS, Tr.ofOpt, List.map_cons, List.map_nil, List.length_cons, List.length_nil, List.cons_append, List.nil_append, List.replicate_succ, List.replicate_zero, List.getElem?_cons_zero, List.getElem?_cons_succ, List.set_cons_zero, List.set_cons_succ, Option.bind_some, Option.map_some, if_true, tyName, Nat.reduceSub, Nat.reduceAdd, List.replicate, e]
  rfl
theorem lt1000 {n : Nat} (h : n < 1000) : n < sizeLine := small1000 (by omega)
theorem ren_len {α : Type} [DecidableEq α] (s : List α × List Nat) (x : α) : (ren1 s x).2.length = s.2.length + 1 ∧ (ren1 s x).1.length ≤ s.1.length + 1 := by
  unfold ren1
  refine ⟨by simp, ?_⟩
  dsimp only
  split
  · omega
  · simp
theorem ren_at {α : Type} [DecidableEq α] (s : List α × List Nat) (x : α) : x ∈ (ren1 s x).1 ∧ (ren1 s x).2 = s.2 ++ [(ren1 s x).1.idxOf x] := by
  unfold ren1
  refine ⟨?_, rfl⟩
  dsimp only
  split
  · assumption
  · simp
end FL
end
section
set_option linter.all false
set_option maxRecDepth 100000
namespace FL
open PySem PySem.Spec PyProof.Rows L2 DL FM
abbrev bNamed : FS := sSeq (sIf (tt (e2 (dIn true) (eVar 1) (eVarB 2))) (sApp 2 (eVar 1)) sNext) (sApp 3 (eIdx (eVarB 2) (eVar 1)))
theorem v_named_any {src : D} {xs : List Nat} (hs : itemsOf src = some (nL xs)) (hl : xs.length ≤ 900) : m_law_named [.val src] = .ret (fD (renum xs)) := by
  have key : ∀ i (s : List Nat × List Nat) x env, xs[i]? = some x → (∃ d3, env = [some (.val src), d3, some (.own (.list (nL s.1))), some (.own (.list (nL s.2)))] ∧ s.2.length = i ∧ s.1.length ≤ i) →
      ∃ env1 env2, gN 1 (nI x) env = some env1 ∧ bNamed env1 = .ret (.nx env2) ∧ ∃ d3, env2 = [some (.val src), d3, some (.own (.list (nL (ren1 s x).1))), some (.own (.list (nL (ren1 s x).2)))] ∧ (ren1 s x).2.length = i + 1 ∧ (ren1 s x).1.length ≤ i + 1 := by
    rintro i ⟨S, F⟩ x env hx ⟨d3, e, hz, hw⟩
    have hi : i < xs.length := by
      obtain ⟨z, _⟩ := List.getElem?_eq_some_iff.mp hx
      exact z
    dsimp only at e hz hw
    subst e
    have a := ren_at (S, F) x
    have b := ren_len (S, F) x
    dsimp only at b a
    refine ⟨[some (.val src), some (.val (nI x)), some (.own (.list (nL S))), some (.own (.list (nL F)))], [some (.val src), some (.val (nI x)), some (.own (.list (nL (ren1 (S, F) x).1))), some (.own (.list (nL (ren1 (S, F) x).2)))], rfl, ?_, _, rfl, by omega, by omega⟩
    have g : dIdx (nL (ren1 (S, F) x).1) (nI x) = some (nI ((ren1 (S, F) x).1.idxOf x)) := dIdx_n a.1
    have f2 : nL F ++ [nI ((ren1 (S, F) x).1.idxOf x)] = nL (ren1 (S, F) x).2 := by
      rw [a.2]
      unfold nL
      rw [List.map_append]
      rfl
    have fl : (nL F).length < sizeLine := by rw [nL_len]; exact lt1000 (by omega)
    have sl : (nL S).length < sizeLine := by rw [nL_len]; exact lt1000 (by omega)
    by_cases z : x ∈ S
    · have e1 : (ren1 (S, F) x).1 = S := if_pos z
      rw [e1] at g f2 ⊢
      simp only [bNamed, fnF, startE, sSeq, sSet, sSetO, sRet, sExpr, sIf, sNext, sAsg, sForR, sForS, sForE, e2, eC, eVar, eVarB, eCB, eCall, aVal, aNil, lCons, lNil, eTup, eLst, eIf, eTy, fTy, eSl, oNone, oSome, eChain, vAnd, vOr, vNot, bNot, bAnd, bOr, tt, fTru, gN, gT, gsCons, gsNil, bret, ofS, Tr.ofOpt, List.map_cons, List.map_nil, List.length_cons, List.length_nil, List.cons_append, List.nil_append, List.replicate_succ, List.replicate_zero, List.getElem?_cons_zero, List.getElem?_cons_succ, List.set_cons_zero, List.set_cons_succ, Option.bind_some, Option.map_some, if_true, tyName, Nat.reduceSub, Nat.reduceAdd, List.replicate, dIn_n, z, sApp, eIdx, decide_true, Bool.not_true, Bool.false_eq_true, if_false, fl, f2, g]
    · have e1 : (ren1 (S, F) x).1 = S ++ [x] := if_neg z
      rw [e1] at g f2 ⊢
      have sn : nL S ++ [nI x] = nL (S ++ [x]) := by unfold nL; rw [List.map_append]; rfl
      simp only [bNamed, fnF, startE, sSeq, sSet, sSetO, sRet, sExpr, sIf, sNext, sAsg, sForR, sForS, sForE, e2, eC, eVar, eVarB, eCB, eCall, aVal, aNil, lCons, lNil, eTup, eLst, eIf, eTy, fTy, eSl, oNone, oSome, eChain, vAnd, vOr, vNot, bNot, bAnd, bOr, tt, fTru, gN, gT, gsCons, gsNil, bret, ofS, Tr.ofOpt, List.map_cons, List.map_nil, List.length_cons, List.length_nil, List.cons_append, List.nil_append, List.replicate_succ, List.replicate_zero, List.getElem?_cons_zero, List.getElem?_cons_succ, List.set_cons_zero, List.set_cons_succ, Option.bind_some, Option.map_some, if_true, tyName, Nat.reduceSub, Nat.reduceAdd, List.replicate, dIn_n, z, sApp, eIdx, decide_false, Bool.not_false, if_false, fl, sl, f2, g, sn]
  obtain ⟨env', h1, d3, e, hz, hw⟩ := for_all (tgt := gN 1) (dd := nI) _ ren1 (xs := xs) (s := (([], []) : List Nat × List Nat)) (env := [some (.val src), none, some (.own (.list [])), some (.own (.list []))]) ⟨none, rfl, rfl, Nat.le_refl _⟩ key
  have h1' : forD (gN 1) bNamed (nL xs) [some (.val src), none, some (.own (.list [])), some (.own (.list []))] = .ret (.nx env') := h1
  have hb : ∀ env, env = [some (.val src), none, some (.own (.list [])), some (.own (.list []))] → sForS (eVar 0) (gN 1) bNamed env = .ret (.nx env') := fun env e => by
    subst e
    unfold sForS
    simp only [eVar, List.getElem?_cons_zero, bret, hs]
    exact h1'
  have a1 : sPar true true 2 3 (eLst lNil) (eLst lNil) (startE 4 [.val src]) = .ret (.nx [some (.val src), none, some (.own (.list [])), some (.own (.list []))]) := rfl
  unfold m_law_named fnF
  have s0 : (sSeq (sPar true true 2 3 (eLst lNil) (eLst lNil)) (sSeq (sForS (eVar 0) (gN 1) bNamed) (sRet (eCB dTuple (lCons (eVarB 3) lNil))))) (startE 4 [.val src]) = .ret (.rv (fD (renum xs))) := by
    unfold sSeq at hb ⊢
    rw [a1]
    simp only [bret]
    rw [hb _ rfl]
    simp only [bret, e]
    rfl
  have s1 := s0
  rw [s1]
  rfl
theorem v_named {xs : List Nat} (hl : xs.length ≤ 900) : m_law_named [.val (lD xs)] = .ret (fD (renum xs)) := v_named_any rfl hl
def merL (xs : List Nat) (a b : Nat) : List Nat := xs.map fun v => if v = b then a else v
theorem merL_same (xs : List Nat) (a : Nat) : merL xs a a = xs := by
  unfold merL
  refine Eq.trans (List.map_congr_left (g := id) fun v _ => ?_) (List.map_id _)
  by_cases h : v = a <;> simp [h]
theorem nI_eq {a b : Nat} : dEq (nI a) (nI b) = some (.bool (decide (a = b))) := by
  unfold nI
  rw [dEq_int]
  congr 2
  by_cases h : a = b
  · simp [h]
  · have : ¬ ((a : Int) = (b : Int)) := by omega
    simp [h, this]
theorem nI_ne {a b : Nat} : dNe (nI a) (nI b) = some (.bool (!decide (a = b))) := by
  unfold nI
  rw [dNe_int]
  congr 2
  by_cases h : a = b
  · simp [h]
  · have : ¬ ((a : Int) = (b : Int)) := by omega
    simp [h, this]
theorem nI_add {a b : Nat} : dAddA (nI a) (nI b) = some (nI (a + b)) := by
  unfold nI
  rw [dAddA_i]
  congr 2
/-- [new if one == old else one for one in marks] at the slot i, old at the slot j, new at the slot k -/
theorem mer_comp {env : Ev} {i j k a b : Nat} {xs : List Nat} (hl : xs.length ≤ 900) (hij : i ≠ j) (hik : i ≠ k) (hi : i < env.length) (hj : env[j]? = some (some (.val (nI b)))) (hk : env[k]? = some (some (.val (nI a)))) :
    endComp (gN i) fYes (eIf (tt (e2 dEq (eVar i) (eVar j))) (eVar k) (eVar i)) env (nL xs) = .ret (lD (merL xs a b)) := by
  unfold lD nL merL
  rw [List.map_map]
  refine end_all (dd := nI) (by omega) fun x _ => ⟨env.set i (some (.val (nI x))), rfl, rfl, ?_⟩
  have e1 : (env.set i (some (Slot.val (nI x))))[i]? = some (some (.val (nI x))) := List.getElem?_set_self hi
  have e2' : (env.set i (some (Slot.val (nI x))))[j]? = some (some (.val (nI b))) := by rw [List.getElem?_set_ne hij]; exact hj
  have e3 : (env.set i (some (Slot.val (nI x))))[k]? = some (some (.val (nI a))) := by rw [List.getElem?_set_ne hik]; exact hk
  simp only [eIf, tt, e2, eVar, e1, e2', e3, bret, nI_eq, ofS]
  by_cases z : x = b
  · simp [z]
  · simp [z]
end FL
end
section
set_option linter.all false
set_option maxRecDepth 100000
namespace FL
open PySem PySem.Spec PyProof.Rows L2 DL FM
theorem five {P : Nat → Prop} {c : Nat} (h1 : 1 ≤ c) (h5 : c ≤ 5) (p1 : P 1) (p2 : P 2) (p3 : P 3) (p4 : P 4) (p5 : P 5) : P c := by
  have : c = 1 ∨ c = 2 ∨ c = 3 ∨ c = 4 ∨ c = 5 := by omega
  rcases this with rfl | rfl | rfl | rfl | rfl <;> assumption
theorem v_straight {c : Nat} (h1 : 1 ≤ c) (h5 : c ≤ 5) : m_straight_figure [.val (nI c)] = .ret (fD (stL c)) ∧ m_law_straight [.val (nI c)] = .ret (fD (stL c)) := by
  refine five (P := fun c => m_straight_figure [.val (nI c)] = .ret (fD (stL c)) ∧ m_law_straight [.val (nI c)] = .ret (fD (stL c))) h1 h5 ?_ ?_ ?_ ?_ ?_
  · exact ⟨by with_unfolding_all rfl, by with_unfolding_all rfl⟩
  · exact ⟨by with_unfolding_all rfl, by with_unfolding_all rfl⟩
  · exact ⟨by with_unfolding_all rfl, by with_unfolding_all rfl⟩
  · exact ⟨by with_unfolding_all rfl, by with_unfolding_all rfl⟩
  · exact ⟨by with_unfolding_all rfl, by with_unfolding_all rfl⟩
end FL
end
section
set_option linter.all false
namespace FM
section
variable {c : Nat}
def merN (xs : List Nat) (a b : Nat) : List Nat := xs.map fun v => if v = b then a else v
theorem merN_len (xs : List Nat) (a b : Nat) : (merN xs a b).length = xs.length := List.length_map ..
theorem merN_getD {xs : List Nat} {a b i : Nat} (h : i < xs.length) : (merN xs a b).getD i 0 = if xs.getD i 0 = b then a else xs.getD i 0 := by
  unfold merN
  simp [List.getD_eq_getElem?_getD, h]
theorem listGlue {E : Pt c → Nat} : ∀ (is : List (Fin c)) (L : List Nat), (∀ x, x ∈ pts2 c → E x < L.length) →
    (is.foldl (fun L i => merN L (L.getD (E (0, true, i)) 0) (L.getD (E (1, false, i)) 0)) L).length = L.length ∧
    ∀ x, x ∈ pts2 c → (is.foldl (fun L i => merN L (L.getD (E (0, true, i)) 0) (L.getD (E (1, false, i)) 0)) L).getD (E x) 0 = glue (fun x => L.getD (E x) 0) (is.map fun i => ((0, true, i), (1, false, i))) x
  | [], L, h => ⟨rfl, fun _ _ => rfl⟩
  | i :: is, L, h => by
    obtain ⟨h1, h2⟩ := listGlue (E := E) is (merN L (L.getD (E (0, true, i)) 0) (L.getD (E (1, false, i)) 0)) fun x hx => by rw [merN_len]; exact h x hx
    refine ⟨by rw [List.foldl_cons, h1, merN_len], fun x hx => ?_⟩
    rw [List.foldl_cons, h2 x hx, List.map_cons, glue_cons]
    refine glue_eqOn (S := (· ∈ pts2 c)) (fun y hy => ?_) (fun r hr => ?_) x hx
    · rw [merN_getD (h y hy)]
      rfl
    · obtain ⟨k, _, rfl⟩ := List.mem_map.mp hr
      exact ⟨mem_pts2.mpr (.inl rfl), mem_pts2.mpr (.inr rfl)⟩
/-- the same over places as numbers -/
theorem listGlueN {E : Pt c → Nat} {e0 e1 : Nat → Nat} (h0 : ∀ i : Fin c, E (0, true, i) = e0 i.val) (h1 : ∀ i : Fin c, E (1, false, i) = e1 i.val) (L : List Nat) (h : ∀ x, x ∈ pts2 c → E x < L.length) :
    ((List.range c).foldl (fun L i => merN L (L.getD (e0 i) 0) (L.getD (e1 i) 0)) L).length = L.length ∧
    ∀ x, x ∈ pts2 c → ((List.range c).foldl (fun L i => merN L (L.getD (e0 i) 0) (L.getD (e1 i) 0)) L).getD (E x) 0 = glue (fun x => L.getD (E x) 0) (prs c 0 1) x := by
  have q := listGlue (E := E) (List.finRange c) L h
  have e : (List.range c).foldl (fun L i => merN L (L.getD (e0 i) 0) (L.getD (e1 i) 0)) L = (List.finRange c).foldl (fun L i => merN L (L.getD (E (0, true, i)) 0) (L.getD (E (1, false, i)) 0)) L := by
    have f := fin_map (fun n => n) c
    rw [List.map_id'] at f
    rw [← f, List.foldl_map]
    refine congrArg (fun g => (List.finRange c).foldl g L) ?_
    funext L i
    rw [h0, h1]
  rw [e]
  exact q
theorem fg_lt {xs : List Nat} (hv : Val c xs) (x : P1 c) : fg c xs x ∈ xs := by
  have e := fg_list hv.len
  have q : fg c xs x ∈ (pts1 c).map (fg c xs) := List.mem_map_of_mem (mem_pts1 x)
  rwa [e] at q
/-- what any such lists of labels tell -/
theorem put_any {A B R : List Nat} {E : Pt c → Nat} {L : List Nat} (hR : ∀ x, x ∈ pts2 c → R.getD (E x) 0 = glue (fun x => L.getD (E x) 0) (prs c 0 1) x) (ke : KE (· ∈ pts2 c) (fun x => L.getD (E x) 0) (lab (two (fg c A) (fg c B)))) :
    renum ((pts1 c).map fun x => R.getD (E (out x)) 0) = uponL c A B ∧ cnt ((pts2 c).map fun x => R.getD (E x) 0) = AL (fg c A) (fg c B) ∧ cnt ((pts1 c).map fun x => R.getD (E (out x)) 0) = nU (fg c A) (fg c B) := by
  have k := glue_ke ke (prs_in2 (c := c) (.inl rfl) (.inr rfl))
  have k2 : KE (· ∈ pts2 c) (fun x => R.getD (E x) 0) (T2 (fg c A) (fg c B)) := fun x y hx hy => by
    dsimp only
    rw [hR x hx, hR y hy]
    exact k x y hx hy
  have k3 : KE (· ∈ pts1 c) (fun x => R.getD (E (out x)) 0) (UP (fg c A) (fg c B)) := fun x y _ _ => k2 _ _ (out_in x) (out_in y)
  exact ⟨renum_ke k3, cnt_ke k2, cnt_ke k3⟩
theorem vlt {xs : List Nat} (hv : Val c xs) {n : Nat} (h : n ∈ xs) : n < cnt xs := by
  have := hv.ren
  exact renum_lt (by rw [this]; exact h)
end
end FM
end
section
set_option linter.all false
namespace FM
section
variable {c : Nat}
def eX (c : Nat) (x : Pt c) : Nat := 2 * c * x.1 + ((if x.2.1 = true then c else 0) + x.2.2.val)
def markL (c : Nat) (A B : List Nat) : List Nat := A ++ B.map fun b => 2 * c + b
def upR (c : Nat) (A B : List Nat) : List Nat := (List.range c).foldl (fun L i => merN L (L.getD (c + i) 0) (L.getD (2 * c + i) 0)) (markL c A B)
theorem fin2 {s : Bool} (i : Fin c) : (if s = true then c else 0) + i.val < 2 * c := by
  have := i.isLt
  split <;> omega
theorem eX_lt {x : Pt c} (hx : x ∈ pts2 c) : eX c x < 4 * c := by
  obtain ⟨j, s, i⟩ := x
  have hx := mem_pts2.mp hx
  have := fin2 (s := s) i
  unfold eX
  simp only at hx ⊢
  rcases hx with rfl | rfl <;> omega
theorem mark_len {A B : List Nat} (hA : Val c A) (hB : Val c B) : (markL c A B).length = 4 * c := by
  unfold markL
  rw [List.length_append, List.length_map, hA.len, hB.len]
  omega
theorem mark_at {A B : List Nat} (hA : Val c A) (hB : Val c B) (x : P1 c) : (markL c A B).getD (eX c (0, x)) 0 = fg c A x ∧ (markL c A B).getD (eX c (1, x)) 0 = 2 * c + fg c B x := by
  obtain ⟨s, i⟩ := x
  have h := fin2 (s := s) i
  have lA := hA.len
  have lB := hB.len
  unfold markL eX fg
  constructor
  · simp only [Nat.mul_zero, Nat.zero_add]
    rw [List.getD_eq_getElem?_getD, List.getElem?_append_left (by omega), List.getD_eq_getElem?_getD]
  · simp only [Nat.mul_one]
    rw [List.getD_eq_getElem?_getD, List.getElem?_append_right (by omega), lA, Nat.add_sub_cancel_left, List.getElem?_map, List.getD_eq_getElem?_getD, List.getElem?_eq_getElem (by omega)]
    rfl
/-- how many unlike ones, by first places -/
def firsts (l : List Nat) : List Nat := (List.range l.length).filter fun i => decide (l.getD i 0 ∉ l.take i)
theorem cnt_snoc (l : List Nat) (x : Nat) : cnt (l ++ [x]) = cnt l + if x ∈ l then 0 else 1 := by
  rw [cnt_filter]
  congr 1
  by_cases h : x ∈ l
  · simp [h, cnt, dd]
  · simp [h, cnt, dd]
theorem firsts_len (l : List Nat) : (firsts l).length = cnt l := by
  induction l using snocInd with
  | nil => rfl
  | snoc l x ih =>
    rw [cnt_snoc, ← ih]
    unfold firsts
    rw [List.length_append, List.length_singleton, List.range_succ, List.filter_append, List.length_append]
    have e1 : (List.range l.length).filter (fun i => decide ((l ++ [x]).getD i 0 ∉ (l ++ [x]).take i)) = (List.range l.length).filter fun i => decide (l.getD i 0 ∉ l.take i) := by
      refine List.filter_congr fun i hi => ?_
      have hi := List.mem_range.mp hi
      have e2 : (l ++ [x]).getD i 0 = l.getD i 0 := by
        rw [List.getD_eq_getElem?_getD, List.getD_eq_getElem?_getD, List.getElem?_append_left hi]
      have e3 : (l ++ [x]).take i = l.take i := by rw [List.take_append_of_le_length (by omega)]
      rw [e2, e3]
    rw [e1]
    congr 1
    have e4 : (l ++ [x]).getD l.length 0 = x := by simp [List.getD_eq_getElem?_getD]
    have e5 : (l ++ [x]).take l.length = l := by simp
    rw [List.filter_cons, e4, e5]
    by_cases h : x ∈ l <;> simp [h]
theorem upR_ok {A B : List Nat} (hA : Val c A) (hB : Val c B) : (upR c A B).length = 4 * c ∧
    renum ((upR c A B).take c ++ (upR c A B).drop (3 * c)) = uponL c A B ∧
    (firsts (((upR c A B).drop c).take c |>.filter fun v => decide (v ∉ (upR c A B).take c ++ (upR c A B).drop (3 * c)))).length = leftL c A B := by
  have hl : ∀ x, x ∈ pts2 c → eX c x < (markL c A B).length := fun x hx => by rw [mark_len hA hB]; exact eX_lt hx
  obtain ⟨r1, r2⟩ := listGlueN (c := c) (E := eX c) (e0 := fun i => c + i) (e1 := fun i => 2 * c + i) (fun i => by
    unfold eX; simp) (fun i => by unfold eX; simp) (markL c A B) hl
  have r1 : (upR c A B).length = 4 * c := by rw [← mark_len hA hB]; exact r1
  have r2 : ∀ x, x ∈ pts2 c → (upR c A B).getD (eX c x) 0 = glue (fun x => (markL c A B).getD (eX c x) 0) (prs c 0 1) x := r2
  have ke : KE (· ∈ pts2 c) (fun x => (markL c A B).getD (eX c x) 0) (lab (two (fg c A) (fg c B))) := fun x y hx hy => by
    dsimp only
    obtain ⟨j, x⟩ := x
    obtain ⟨k, y⟩ := y
    have hx := mem_pts2.mp hx
    have hy := mem_pts2.mp hy
    simp only at hx hy
    have ax := vlt hA (fg_lt hA x)
    have ay := vlt hA (fg_lt hA y)
    have cA : cnt A ≤ 2 * c := by
      have q : cnt A ≤ A.length := len_le (nodup_dd A) fun v hv => mem_dd.mp hv
      rw [hA.len] at q
      exact q
    rcases hx with rfl | rfl <;> rcases hy with rfl | rfl
    · rw [(mark_at hA hB x).1, (mark_at hA hB y).1]
      show _ ↔ ((0, fg c A x) : Nat × Nat) = (0, fg c A y)
      simp
    · rw [(mark_at hA hB x).1, (mark_at hA hB y).2]
      show _ ↔ ((0, fg c A x) : Nat × Nat) = (1, fg c B y)
      simp
      omega
    · rw [(mark_at hA hB x).2, (mark_at hA hB y).1]
      show _ ↔ ((1, fg c B x) : Nat × Nat) = (0, fg c A y)
      simp
      omega
    · rw [(mark_at hA hB x).2, (mark_at hA hB y).2]
      show _ ↔ ((1, fg c B x) : Nat × Nat) = (1, fg c B y)
      simp
  obtain ⟨p1, p2, p3⟩ := put_any (A := A) (B := B) (R := upR c A B) r2 ke
  have kept : (pts1 c).map (fun x => (upR c A B).getD (eX c (out x)) 0) = (upR c A B).take c ++ (upR c A B).drop (3 * c) := by
    unfold pts1 side
    rw [List.map_append, List.map_map, List.map_map]
    have t : (upR c A B).take c = (List.range c).map fun i => (upR c A B).getD i 0 := by
      apply List.ext_getElem
      · simp; omega
      · intro i h1 h2
        have : i < (upR c A B).length := by simp at h1; omega
        simp [List.getElem?_eq_getElem this]
    have d : (upR c A B).drop (3 * c) = (List.range c).map fun i => (upR c A B).getD (3 * c + i) 0 := by
      apply List.ext_getElem
      · simp; omega
      · intro i h1 h2
        have : 3 * c + i < (upR c A B).length := by simp at h1; omega
        simp [List.getElem?_eq_getElem this]
    rw [t, d, ← fin_map, ← fin_map]
    congr 1
    · refine List.map_congr_left fun i _ => ?_
      show (upR c A B).getD (eX c (0, false, i)) 0 = _
      unfold eX
      simp
    · refine List.map_congr_left fun i _ => ?_
      show (upR c A B).getD (eX c (1, true, i)) 0 = _
      unfold eX
      simp only [Nat.mul_one, if_true]
      rw [show 2 * c + (c + i.val) = 3 * c + i.val by omega]
  refine ⟨r1, by rw [← kept]; exact p1, ?_⟩
  rw [firsts_len]
  have mid : ((upR c A B).drop c).take c = (List.range c).map fun i => (upR c A B).getD (c + i) 0 := by
    apply List.ext_getElem
    · simp; omega
    · intro i h1 h2
      have : c + i < (upR c A B).length := by simp at h1; omega
      simp [List.getElem?_eq_getElem this]
  have all : cnt ((pts2 c).map fun x => (upR c A B).getD (eX c x) 0) = cnt (((upR c A B).take c ++ (upR c A B).drop (3 * c)) ++ ((upR c A B).drop c).take c) := by
    refine cnt_congr fun v => ?_
    rw [List.mem_append, ← kept, mid, ← fin_map]
    constructor
    · intro h
      obtain ⟨⟨j, s, i⟩, hx, e⟩ := List.mem_map.mp h
      have hx := mem_pts2.mp hx
      simp only at hx
      rcases hx with rfl | rfl <;> cases s
      · exact .inl (List.mem_map.mpr ⟨(false, i), mem_pts1 _, e⟩)
      · refine .inr (List.mem_map.mpr ⟨i, List.mem_finRange i, ?_⟩)
        rw [← e]
        unfold eX
        simp
      · refine .inr (List.mem_map.mpr ⟨i, List.mem_finRange i, ?_⟩)
        have g := glue_pr (f := fun x => (markL c A B).getD (eX c x) 0) (ps := prs c 0 1) (x := (0, true, i)) (y := (1, false, i)) (mem_prs.mpr ⟨i, rfl⟩)
        rw [← r2 _ (mem_pts2.mpr (.inl rfl)), ← r2 _ (mem_pts2.mpr (.inr rfl))] at g
        rw [← e]
        rw [← g]
        unfold eX
        simp
      · exact .inl (List.mem_map.mpr ⟨(true, i), mem_pts1 _, e⟩)
    · rintro (h | h)
      · obtain ⟨x, _, e⟩ := List.mem_map.mp h
        exact List.mem_map.mpr ⟨out x, out_in x, e⟩
      · obtain ⟨i, _, e⟩ := List.mem_map.mp h
        refine List.mem_map.mpr ⟨(0, true, i), mem_pts2.mpr (.inl rfl), ?_⟩
        rw [← e]
        unfold eX
        simp
  rw [cnt_filter, p2, ← kept, p3] at all
  unfold leftL LEFT
  rw [← kept]
  omega
end
end FM
end
section
set_option linter.all false
set_option maxRecDepth 100000
namespace FL
open PySem PySem.Spec PyProof.Rows L2 DL FM
theorem seq_nx {f g : FS} {env env' : Ev} (h : f env = .ret (.nx env')) : sSeq f g env = g env' := by
  unfold sSeq
  rw [h]
  rfl
theorem set_nx {i : Nat} {f : FE} {env : Ev} {d : D} (h : f env = .ret d) : sSet i f env = .ret (.nx (env.set i (some (.val d)))) := by
  unfold sSet
  rw [h]
  rfl
theorem ret_rv {f : FE} {env : Ev} {d : D} (h : f env = .ret d) : sRet f env = .ret (.rv d) := by
  unfold sRet
  rw [h]
  rfl
theorem fn_v {n : Nat} {k : Kd} {fb : FS} {ss : List Slot} {d : D} (h : fb (startE n ss) = .ret (.rv d)) : fnF n k fb ss = .ret d := by
  unfold fnF
  rw [h]
  rfl
theorem e2_r {g : D → D → Option D} {fa fb : FE} {env : Ev} {x y d : D} (ha : fa env = .ret x) (hb : fb env = .ret y) (hg : g x y = some d) : e2 g fa fb env = .ret d := by
  unfold e2
  rw [ha, bret, hb, bret, hg]
  rfl
theorem cut_take (xs : List Nat) (n : Nat) : DL.cutD (nL xs) none (some (n : Int)) = nL (xs.take n) := by
  unfold DL.cutD
  rw [HT.sIx_none, HT.sIx_nat, List.drop_zero, Nat.sub_zero]
  unfold nL
  rw [← List.map_take, List.length_map]
  congr 1
  by_cases h : n ≤ xs.length
  · rw [Nat.min_eq_left h]
  · rw [Nat.min_eq_right (by omega), List.take_of_length_le (by omega), List.take_of_length_le (by omega)]
theorem cut_drop (xs : List Nat) (n : Nat) : DL.cutD (nL xs) (some (n : Int)) none = nL (xs.drop n) := by
  unfold DL.cutD
  rw [HT.sIx_none, HT.sIx_nat]
  unfold nL
  rw [← List.map_drop, ← List.map_take, List.length_map]
  congr 1
  by_cases h : n ≤ xs.length
  · rw [Nat.min_eq_left h, List.take_of_length_le (by simp)]
  · rw [Nat.min_eq_right (by omega), List.drop_of_length_le (by omega : xs.length ≤ n)]
    simp
theorem cut_mid {xs : List Nat} {a b : Nat} (hab : a ≤ b) (hb : b ≤ xs.length) : DL.cutD (nL xs) (some (a : Int)) (some (b : Int)) = nL ((xs.drop a).take (b - a)) := by
  unfold DL.cutD
  rw [HT.sIx_nat, HT.sIx_nat]
  unfold nL
  rw [← List.map_drop, ← List.map_take, List.length_map, Nat.min_eq_left (by omega), Nat.min_eq_left (by omega)]
theorem nL_app (xs ys : List Nat) : nL xs ++ nL ys = nL (xs ++ ys) := by unfold nL; rw [List.map_append]
theorem cat_n {xs ys : List Nat} (h : xs.length + ys.length ≤ 1000) : dAddA (lD xs) (lD ys) = some (lD (xs ++ ys)) := by
  have e : dCat (lD xs) (lD ys) = some (lD (xs ++ ys)) := by
    unfold lD dCat
    dsimp only
    rw [if_pos (by rw [nL_len, nL_len]; exact sl1000 h), nL_app]
  unfold dAddA
  exact e
theorem nI_sub {a b : Nat} (h : b ≤ a) : dSub (nI a) (nI b) = some (nI (a - b)) := by
  unfold nI dSub
  dsimp only
  congr 2
  omega
theorem nI_mul {a b : Nat} (h : a < 1000) : dMul (nI a) (nI b) = some (nI (a * b)) := by
  unfold nI
  rw [dMul_l (by omega)]
  congr 2
theorem lc1 {f : FE} {env : Ev} {d : D} (h : f env = .ret d) : lCons f lNil env = .ret [d] := by
  unfold lCons
  rw [h]
  rfl
theorem rgL_eq {r : FL} {env : Ev} {ds : List D} {lo : Int} {n : Nat} (h : r env = .ret ds) (q : rngOf ds = some (lo, n)) (hn : n ≤ 16777216) : eRgL r env = .ret (.list (rngD lo n)) := by
  unfold eRgL
  rw [h, bret, q]
  exact if_pos hn
theorem forR_eq {r : FL} {tgt : FG} {body : FS} {env : Ev} {ds : List D} {lo : Int} {n : Nat} (h : r env = .ret ds) (q : rngOf ds = some (lo, n)) : sForR r tgt body env = forD tgt body (rngD lo n) env := by
  unfold sForR
  rw [h, bret, q]
theorem compR_eq {r : FL} {tgt : FG} {t : FT} {fe : FE} {vs : List Nat} {env : Ev} {ds : List D} {lo : Int} {n : Nat} (h : r env = .ret ds) (q : rngOf ds = some (lo, n)) : eCompR r tgt t fe vs env = endComp tgt t fe (wipeE env vs) (rngD lo n) := by
  unfold eCompR
  rw [h, bret, q]
theorem rgL_n {f : FE} {env : Ev} {n : Nat} (h : f env = .ret (nI n)) (hn : n ≤ 1000) : eRgL (lCons f lNil) env = .ret (lD (List.range n)) := by
  rw [rgL_eq (lc1 h) (rngOf_n hn) (by omega), rng_n]
  rfl
theorem atL {xs : List Nat} {i : Nat} (h : i < xs.length) : dIx (lD xs) (nI i) = some (nI (xs.getD i 0)) := by
  unfold lD nI
  rw [dIx_l]
  exact nL_at h
theorem forR_n {f : FE} {tgt : FG} {body : FS} {env : Ev} {n : Nat} (h : f env = .ret (nI n)) (hn : n ≤ 1000) : sForR (lCons f lNil) tgt body env = forD tgt body ((List.range n).map nI) env := by
  rw [forR_eq (lc1 h) (rngOf_n hn), rng_n]
theorem tup2 {fa fb : FE} {env : Ev} {x y : D} (ha : fa env = .ret x) (hb : fb env = .ret y) : eTup (lCons fa (lCons fb lNil)) env = .ret (.tuple [x, y]) := by
  have e : lCons fa (lCons fb lNil) env = .ret [x, y] := by
    show (fa env).bind _ = _
    rw [ha, bret, lc1 hb]
    rfl
  unfold eTup
  rw [e, bret]
  exact if_pos (show 2 ≤ sizeLine by decide)
end FL
end
section
set_option linter.all false
set_option maxRecDepth 100000
namespace FL
open PySem PySem.Spec PyProof.Rows L2 DL FM
theorem rngx {c i x : Nat} (hx : (List.range c)[i]? = some x) : x < c := by
  obtain ⟨hi, e⟩ := List.getElem?_eq_some_iff.mp hx
  rw [List.getElem_range] at e
  rw [List.length_range] at hi
  omega
theorem asg_two {f : FE} {i j : Nat} {env : Ev} {x y : D} (h : f env = .ret (.tuple [x, y])) : sAsg f (gT 2 (gsCons (gN i) (gsCons (gN j) gsNil))) env = .ret (.nx ((env.set i (some (.val x))).set j (some (.val y)))) := by
  unfold sAsg
  rw [h]
  rfl
abbrev bUp : FS := sSeq (sAsg (eTup (lCons (e2 dIx (eVar 3) (e2 dAddA (e2 dMul (eC (.int 2)) (eVar 0)) (eVar 4))) (lCons (e2 dIx (eVar 3) (e2 dAddA (eVar 0) (eVar 4))) lNil))) (gT 2 (gsCons (gN 8) (gsCons (gN 9) gsNil)))) (sIf (tt (e2 dNe (eVar 8) (eVar 9))) (sSet 3 (eCompS (eVar 3) (gN 10) fYes (eIf (tt (e2 dEq (eVar 10) (eVar 8))) (eVar 9) (eVar 10)) [10])) sNext)
theorem v_lawup {c : Nat} {A B : List Nat} (h1 : 1 ≤ c) (h5 : c ≤ 5) (hA : Val c A) (hB : Val c B) : m_law_upon [.val (nI c), .val (fD A), .val (fD B)] = .ret (.tuple [fD (uponL c A B), nI (leftL c A B)]) := by
  have lA := hA.len
  have lB := hB.len
  obtain ⟨rl, r1, r2⟩ := upR_ok hA hB
  have ml := mark_len hA hB
  let e0 : Ev := [some (.val (nI c)), some (.val (fD A)), some (.val (fD B)), none, none, none, none, none, none, none, none]
  let e1 : Ev := [some (.val (nI c)), some (.val (fD A)), some (.val (fD B)), some (.val (lD (markL c A B))), none, none, none, none, none, none, none]
  have s1 : sSet 3 (e2 dAddA (eCompS (eVar 1) (gN 10) fYes (eVar 10) [10]) (eCompS (eVar 2) (gN 10) fYes (e2 dAddA (e2 dMul (eC (.int 2)) (eVar 0)) (eVar 10)) [10])) e0 = .ret (.nx e1) := by
    have a : eCompS (eVar 1) (gN 10) fYes (eVar 10) [10] e0 = .ret (lD A) := end_all (dd := nI) (g := nI) (xs := A) (by omega) fun x _ => ⟨e0.set 10 (some (.val (nI x))), rfl, rfl, rfl⟩
    have b : eCompS (eVar 2) (gN 10) fYes (e2 dAddA (e2 dMul (eC (.int 2)) (eVar 0)) (eVar 10)) [10] e0 = .ret (lD (B.map fun b => 2 * c + b)) := by
      have q := end_all (tgt := gN 10) (t := fYes) (fe := e2 dAddA (e2 dMul (eC (.int 2)) (eVar 0)) (eVar 10)) (env := e0) (dd := nI) (g := fun b => nI (2 * c + b)) (xs := B) (by omega) fun x _ => ⟨_, rfl, rfl, e2_r (e2_r (x := nI 2) (y := nI c) rfl rfl (nI_mul (by decide))) (y := nI x) rfl nI_add⟩
      refine Eq.trans q ?_
      unfold lD nL
      rw [List.map_map]
      rfl
    rw [set_nx (e2_r a b (cat_n (by rw [List.length_map]; omega)))]
    rfl
  have key : ∀ (i : Nat) (L : List Nat) (x : Nat) (env : Ev), (List.range c)[i]? = some x → (∃ d4 d8 d9, env = [some (.val (nI c)), some (.val (fD A)), some (.val (fD B)), some (.val (lD L)), d4, none, none, none, d8, d9, none] ∧ L.length = 4 * c) →
      ∃ env1 env2, gN 4 (nI x) env = some env1 ∧ bUp env1 = .ret (.nx env2) ∧ ∃ d4 d8 d9, env2 = [some (.val (nI c)), some (.val (fD A)), some (.val (fD B)), some (.val (lD (merN L (L.getD (c + x) 0) (L.getD (2 * c + x) 0)))), d4, none, none, none, d8, d9, none] ∧ (merN L (L.getD (c + x) 0) (L.getD (2 * c + x) 0)).length = 4 * c := by
    rintro i L x env hx ⟨d4, d8, d9, e, hL⟩
    have hxc := rngx hx
    subst e
    have i1 : dIx (lD L) (nI (2 * c + x)) = some (nI (L.getD (2 * c + x) 0)) := atL (by omega)
    have i2 : dIx (lD L) (nI (c + x)) = some (nI (L.getD (c + x) 0)) := atL (by omega)
    let f0 : Ev := [some (.val (nI c)), some (.val (fD A)), some (.val (fD B)), some (.val (lD L)), some (.val (nI x)), none, none, none, d8, d9, none]
    let f1 : Ev := [some (.val (nI c)), some (.val (fD A)), some (.val (fD B)), some (.val (lD L)), some (.val (nI x)), none, none, none, some (.val (nI (L.getD (2 * c + x) 0))), some (.val (nI (L.getD (c + x) 0))), none]
    have t1 : eTup (lCons (e2 dIx (eVar 3) (e2 dAddA (e2 dMul (eC (.int 2)) (eVar 0)) (eVar 4))) (lCons (e2 dIx (eVar 3) (e2 dAddA (eVar 0) (eVar 4))) lNil)) f0 = .ret (.tuple [nI (L.getD (2 * c + x) 0), nI (L.getD (c + x) 0)]) :=
      tup2 (e2_r (x := lD L) rfl (e2_r (e2_r (x := nI 2) (y := nI c) rfl rfl (nI_mul (by decide))) (y := nI x) rfl nI_add) i1) (e2_r (x := lD L) rfl (e2_r (x := nI c) (y := nI x) rfl rfl nI_add) i2)
    have t2 := asg_two (i := 8) (j := 9) t1
    refine ⟨f0, [some (.val (nI c)), some (.val (fD A)), some (.val (fD B)), some (.val (lD (merN L (L.getD (c + x) 0) (L.getD (2 * c + x) 0)))), some (.val (nI x)), none, none, none, some (.val (nI (L.getD (2 * c + x) 0))), some (.val (nI (L.getD (c + x) 0))), none], rfl, ?_, _, _, _, rfl, by rw [merN_len, hL]⟩
    refine (seq_nx t2).trans ?_
    show sIf _ _ _ f1 = _
    by_cases z : L.getD (2 * c + x) 0 = L.getD (c + x) 0
    · have ms : merN L (L.getD (c + x) 0) (L.getD (2 * c + x) 0) = L := by
        rw [z]
        exact merL_same L _
      rw [ms]
      have t3 : tt (e2 dNe (eVar 8) (eVar 9)) f1 = .ret false := by
        have q : e2 dNe (eVar 8) (eVar 9) f1 = .ret (.bool false) := e2_r (x := nI (L.getD (2 * c + x) 0)) (y := nI (L.getD (c + x) 0)) rfl rfl (by rw [nI_ne, decide_eq_true z]; rfl)
        unfold tt
        rw [q]
        rfl
      unfold sIf
      rw [t3]
      rfl
    · have t3 : tt (e2 dNe (eVar 8) (eVar 9)) f1 = .ret true := by
        have q : e2 dNe (eVar 8) (eVar 9) f1 = .ret (.bool true) := e2_r (x := nI (L.getD (2 * c + x) 0)) (y := nI (L.getD (c + x) 0)) rfl rfl (by rw [nI_ne, decide_eq_false z]; rfl)
        unfold tt
        rw [q]
        rfl
      unfold sIf
      rw [t3]
      have t4 : eCompS (eVar 3) (gN 10) fYes (eIf (tt (e2 dEq (eVar 10) (eVar 8))) (eVar 9) (eVar 10)) [10] f1 = .ret (lD (merN L (L.getD (c + x) 0) (L.getD (2 * c + x) 0))) :=
        mer_comp (env := f1) (i := 10) (j := 8) (k := 9) (a := L.getD (c + x) 0) (b := L.getD (2 * c + x) 0) (xs := L) (by omega) (by decide) (by decide) (Nat.lt_succ_self 10) rfl rfl
      show sSet 3 _ f1 = _
      rw [set_nx t4]
      rfl
  obtain ⟨env', g1, d4, d8, d9, e, hL⟩ := for_all (tgt := gN 4) (dd := nI) _ (fun L i => merN L (L.getD (c + i) 0) (L.getD (2 * c + i) 0)) (xs := List.range c) (s := markL c A B) (env := e1) ⟨none, none, none, rfl, ml⟩ key
  have e : env' = [some (.val (nI c)), some (.val (fD A)), some (.val (fD B)), some (.val (lD (upR c A B))), d4, none, none, none, d8, d9, none] := e
  have s2 : sForR (lCons (eVar 0) lNil) (gN 4) bUp e1 = .ret (.nx env') := (forR_n (n := c) rfl (by omega)).trans g1
  subst e
  let R := upR c A B
  have hRl : R.length = 4 * c := rl
  let kept := R.take c ++ R.drop (3 * c)
  have hk : kept.length ≤ 20 := by show (R.take c ++ R.drop (3 * c)).length ≤ 20; rw [List.length_append, List.length_take, List.length_drop]; omega
  let lost := ((R.drop c).take c).filter fun v => decide (v ∉ kept)
  have hlo : lost.length ≤ 5 := by
    have := List.length_filter_le (fun v => decide (v ∉ kept)) ((R.drop c).take c)
    have h3 : ((R.drop c).take c).length ≤ 5 := by rw [List.length_take]; omega
    exact Nat.le_trans this h3
  let f2 : Ev := [some (.val (nI c)), some (.val (fD A)), some (.val (fD B)), some (.val (lD R)), d4, none, none, none, d8, d9, none]
  have s3 : e2 dAddA (eSl dSlA (eVar 3) oNone (oSome (eVar 0))) (eSl dSlA (eVar 3) (oSome (e2 dMul (eC (.int 3)) (eVar 0))) oNone) f2 = .ret (lD kept) := by
    have a : eSl dSlA (eVar 3) oNone (oSome (eVar 0)) f2 = .ret (lD (R.take c)) := by
      show Tr.ofOpt (some (PyData.list (DL.cutD (nL R) none (some (c : Int))))) = _
      rw [cut_take]
      rfl
    have m3 : e2 dMul (eC (.int 3)) (eVar 0) f2 = .ret (nI (3 * c)) := e2_r (x := nI 3) (y := nI c) rfl rfl (nI_mul (by decide))
    have b : eSl dSlA (eVar 3) (oSome (e2 dMul (eC (.int 3)) (eVar 0))) oNone f2 = .ret (lD (R.drop (3 * c))) := by
      have o : oSome (e2 dMul (eC (.int 3)) (eVar 0)) f2 = .ret (some ((3 * c : Nat) : Int)) := by
        unfold oSome
        rw [m3]
        rfl
      unfold eSl
      rw [show eVar 3 f2 = .ret (lD R) from rfl, bret, o, bret]
      show Tr.ofOpt (some (PyData.list (DL.cutD (nL R) (some ((3 * c : Nat) : Int)) none))) = _
      rw [cut_drop]
      rfl
    exact e2_r a b (cat_n (by have := hk; rw [← List.length_append]; show kept.length ≤ 1000; omega))
  let f3 : Ev := [some (.val (nI c)), some (.val (fD A)), some (.val (fD B)), some (.val (lD R)), d4, some (.val (lD kept)), none, none, d8, d9, none]
  have s4 : eCompS (eSl dSlA (eVar 3) (oSome (eVar 0)) (oSome (e2 dMul (eC (.int 2)) (eVar 0)))) (gN 10) (tt (e2 (dIn true) (eVar 10) (eVar 5))) (eVar 10) [10] f3 = .ret (lD lost) := by
    have m2 : e2 dMul (eC (.int 2)) (eVar 0) f3 = .ret (nI (2 * c)) := e2_r (x := nI 2) (y := nI c) rfl rfl (nI_mul (by decide))
    have o : oSome (e2 dMul (eC (.int 2)) (eVar 0)) f3 = .ret (some ((2 * c : Nat) : Int)) := by
      unfold oSome
      rw [m2]
      rfl
    have sl : eSl dSlA (eVar 3) (oSome (eVar 0)) (oSome (e2 dMul (eC (.int 2)) (eVar 0))) f3 = .ret (lD ((R.drop c).take c)) := by
      unfold eSl
      rw [show eVar 3 f3 = .ret (lD R) from rfl, bret, show oSome (eVar 0) f3 = .ret (some (c : Int)) from rfl, bret, o, bret]
      show Tr.ofOpt (some (PyData.list (DL.cutD (nL R) (some (c : Int)) (some ((2 * c : Nat) : Int))))) = _
      rw [cut_mid (by omega) (by omega), show 2 * c - c = c by omega]
      rfl
    have q := end_filter (tgt := gN 10) (t := tt (e2 (dIn true) (eVar 10) (eVar 5))) (fe := eVar 10) (env := f3) (dd := nI) (g := nI) (p := fun v => decide (v ∉ kept)) (xs := (R.drop c).take c) (by rw [List.length_take]; omega) fun x _ => ⟨f3.set 10 (some (.val (nI x))), rfl, by
      have e : e2 (dIn true) (eVar 10) (eVar 5) (f3.set 10 (some (.val (nI x)))) = .ret (.bool (decide (x ∉ kept))) := e2_r (x := nI x) (y := lD kept) rfl rfl (by
        rw [dIn_n]
        by_cases h : x ∈ kept <;> simp [h])
      unfold tt
      rw [e]
      rfl, fun _ => rfl⟩
    unfold eCompS
    rw [sl, bret]
    exact q
  let f4 : Ev := [some (.val (nI c)), some (.val (fD A)), some (.val (fD B)), some (.val (lD R)), d4, some (.val (lD kept)), some (.val (lD lost)), none, d8, d9, none]
  have s5 : eCompR (lCons (eCB dLenA (lCons (eVar 6) lNil)) lNil) (gN 4) (tt (e2 (dIn true) (e2 dIx (eVar 6) (eVar 4)) (eSl dSlA (eVar 6) oNone (oSome (eVar 4))))) (e2 dIx (eVar 6) (eVar 4)) [4] f4 = .ret (.list ((firsts lost).map fun i => nI (lost.getD i 0))) := by
    have ln : eCB dLenA (lCons (eVar 6) lNil) f4 = .ret (nI lost.length) := by
      show Tr.ofOpt (dLenA [lD lost]) = _
      show Tr.ofOpt (some (PyData.int ((nL lost).length : Nat))) = _
      rw [nL_len]
      rfl
    rw [compR_eq (lc1 ln) (rngOf_n (n := lost.length) (by omega)), rng_n]
    let f5 : Ev := wipeE f4 [4]
    refine end_filter (tgt := gN 4) (env := f5) (dd := nI) (g := fun i => nI (lost.getD i 0)) (p := fun i => decide (lost.getD i 0 ∉ lost.take i)) (xs := List.range lost.length) (by rw [List.length_range]; omega) fun x hx => ⟨f5.set 4 (some (.val (nI x))), rfl, ?_, fun _ => ?_⟩
    · have hx := List.mem_range.mp hx
      have a : e2 dIx (eVar 6) (eVar 4) (f5.set 4 (some (.val (nI x)))) = .ret (nI (lost.getD x 0)) := e2_r (x := lD lost) (y := nI x) rfl rfl (atL hx)
      have b : eSl dSlA (eVar 6) oNone (oSome (eVar 4)) (f5.set 4 (some (.val (nI x)))) = .ret (lD (lost.take x)) := by
        show Tr.ofOpt (some (PyData.list (DL.cutD (nL lost) none (some (x : Int))))) = _
        rw [cut_take]
        rfl
      have e : e2 (dIn true) (e2 dIx (eVar 6) (eVar 4)) (eSl dSlA (eVar 6) oNone (oSome (eVar 4))) (f5.set 4 (some (.val (nI x)))) = .ret (.bool (decide (lost.getD x 0 ∉ lost.take x))) := e2_r a b (by
        rw [dIn_n]
        by_cases h : lost.getD x 0 ∈ lost.take x <;> simp [h])
      unfold tt
      rw [e]
      rfl
    · have hx := List.mem_range.mp hx
      exact e2_r (x := lD lost) (y := nI x) rfl rfl (atL hx)
  let f6 : Ev := [some (.val (nI c)), some (.val (fD A)), some (.val (fD B)), some (.val (lD R)), d4, some (.val (lD kept)), some (.val (lD lost)), some (.val (.list ((firsts lost).map fun i => nI (lost.getD i 0)))), d8, d9, none]
  have s6 : eTup (lCons (eCall m_law_named (aVal (eVar 5) aNil)) (lCons (eCB dLenA (lCons (eVar 7) lNil)) lNil)) f6 = .ret (.tuple [fD (uponL c A B), nI (leftL c A B)]) := by
    have a := v_named (xs := kept) (by omega)
    have r1' : renum kept = uponL c A B := r1
    rw [r1'] at a
    have b : eCB dLenA (lCons (eVar 7) lNil) f6 = .ret (nI (leftL c A B)) := by
      show Tr.ofOpt (some (PyData.int (((firsts lost).map fun i => nI (lost.getD i 0)).length : Nat))) = _
      rw [List.length_map]
      have r2' : (firsts lost).length = leftL c A B := r2
      rw [r2']
      rfl
    exact tup2 (show eCall m_law_named (aVal (eVar 5) aNil) f6 = .ret (fD (uponL c A B)) from a) b
  unfold m_law_upon
  refine fn_v (d := .tuple [fD (uponL c A B), nI (leftL c A B)]) ?_
  refine (seq_nx (env := e0) s1).trans ((seq_nx s2).trans ((seq_nx (set_nx s3)).trans ((seq_nx (set_nx s4)).trans ((seq_nx (set_nx s5)).trans ?_))))
  exact ret_rv s6
end FL
end
section
set_option linter.all false
namespace FM
/-- the places of each number, by the numbers -/
def plcs (l : List Nat) : List (List Nat) := (List.range (cnt l)).map fun k => (List.range l.length).filter fun i => decide ((renum l).getD i 0 = k)
end FM
end
section
set_option linter.all false
set_option maxRecDepth 100000
namespace FL
open PySem PySem.Spec PyProof.Rows L2 DL FM
theorem a1 {f : FE} {env : Ev} {d : D} (h : f env = .ret d) : aVal f aNil env = .ret [.val d] := by
  unfold aVal aNil
  rw [h]
  rfl
theorem aC {f : FE} {r : FA} {env : Ev} {d : D} {ss : List Slot} (h : f env = .ret d) (hr : r env = .ret ss) : aVal f r env = .ret (.val d :: ss) := by
  unfold aVal
  rw [h, bret, hr]
  rfl
theorem call_r {F : List Slot → Tr D} {r : FA} {env : Ev} {ss : List Slot} {t : Tr D} (h : r env = .ret ss) (hF : F ss = t) : eCall F r env = t := by
  unfold eCall
  rw [h, bret, hF]
theorem aR {n : Nat} {idx : List Nat} {r : FA} {env : Ev} {ss : List Slot} (h : r env = .ret ss) : aReo n idx r env = .ret (reo n idx (.val .none) ss) := by
  unfold aReo
  rw [h]
  rfl
theorem expr_nx {f : FE} {env : Ev} {d : D} (h : f env = .ret d) : sExpr f env = .ret (.nx env) := by
  unfold sExpr
  rw [h]
  rfl
end FL
end
section
set_option linter.all false
set_option maxRecDepth 100000
namespace DL
open PySem PySem.Spec PyProof.Rows L2
mutual
def beD : D → D → Bool
  | .none, y => match y with | .none => true | _ => false
  | .bool a, y => match y with | .bool b => a == b | _ => false
  | .int a, y => match y with | .int b => decide (a = b) | _ => false
  | .str a, y => match y with | .str b => decide (a = b) | _ => false
  | .list a, y => match y with | .list b => beDs a b | _ => false
  | .tuple a, y => match y with | .tuple b => beDs a b | _ => false
  | .dict a, y => match y with | .dict b => beKs a b | _ => false
def beDs : List D → List D → Bool
  | [], y => match y with | [] => true | _ => false
  | x :: xs, y => match y with | z :: zs => beD x z && beDs xs zs | _ => false
def beKs : List (D × D) → List (D × D) → Bool
  | [], y => match y with | [] => true | _ => false
  | (k, v) :: xs, y => match y with | (k2, v2) :: zs => (beD k k2 && beD v v2) && beKs xs zs | _ => false
end
mutual
theorem beD_ok : ∀ (x y : D), beD x y = true → x = y
  | .none, y, h => by cases y <;> first | rfl | (simp [beD] at h)
  | .bool a, y, h => by cases y <;> first | (simp [beD] at h; done) | (simp [beD] at h; rw [h])
  | .int a, y, h => by cases y <;> first | (simp [beD] at h; done) | (simp [beD] at h; rw [h])
  | .str a, y, h => by cases y <;> first | (simp [beD] at h; done) | (simp [beD] at h; rw [h])
  | .list a, y, h => by
    cases y with
    | list b => rw [beD] at h; rw [beDs_ok a b h]
    | _ => simp [beD] at h
  | .tuple a, y, h => by
    cases y with
    | tuple b => rw [beD] at h; rw [beDs_ok a b h]
    | _ => simp [beD] at h
  | .dict a, y, h => by
    cases y with
    | dict b => rw [beD] at h; rw [beKs_ok a b h]
    | _ => simp [beD] at h
theorem beDs_ok : ∀ (x y : List D), beDs x y = true → x = y
  | [], y, h => by cases y <;> first | rfl | (simp [beDs] at h)
  | x :: xs, y, h => by
    cases y with
    | nil => simp [beDs] at h
    | cons z zs =>
      rw [beDs, Bool.and_eq_true] at h
      rw [beD_ok x z h.1, beDs_ok xs zs h.2]
theorem beKs_ok : ∀ (x y : List (D × D)), beKs x y = true → x = y
  | [], y, h => by cases y <;> first | rfl | (simp [beKs] at h)
  | (k, v) :: xs, y, h => by
    cases y with
    | nil => simp [beKs] at h
    | cons z zs =>
      obtain ⟨k2, v2⟩ := z
      rw [beKs, Bool.and_eq_true, Bool.and_eq_true] at h
      rw [beD_ok k k2 h.1.1, beD_ok v v2 h.1.2, beKs_ok xs zs h.2]
end
/-- a run without draws that comes to d -/
def isRet (t : Tr D) (d : D) : Bool := match t with
  | .ret x => beD x d
  | _ => false
theorem isRet_ok {t : Tr D} {d : D} (h : isRet t d = true) : t = .ret d := by
  cases t with
  | ret x => rw [beD_ok x d h]
  | _ => cases h
end DL
end
section
set_option linter.all false
set_option maxRecDepth 100000
namespace FL
open PySem PySem.Spec PyProof.Rows L2 DL FM
structure Ok {α : Type} (t : Tr α) (n : Nat) (P : α → Prop) : Prop where
  run : ∀ b, n ≤ b → t.All b fun a c => b ≤ c + n ∧ P a
theorem Ok.ret {α : Type} {a : α} {P : α → Prop} (h : P a) : Ok (.ret a) 0 P := ⟨fun b _ => ⟨Nat.le_refl _, h⟩⟩
theorem Ok.of {α : Type} {t : Tr α} {a : α} {P : α → Prop} (e : t = .ret a) (h : P a) : Ok t 0 P := by
  rw [e]
  exact Ok.ret h
theorem Ok.mono {α : Type} {t : Tr α} {n m : Nat} {P Q : α → Prop} (h : Ok t n P) (hn : n ≤ m) (k : ∀ a, P a → Q a) : Ok t m Q := ⟨fun b hb =>
  Tr.All_mono (h.run b (by omega)) fun a c ⟨h1, h2⟩ => ⟨by omega, k a h2⟩⟩
theorem Ok.bind {α β : Type} {t : Tr α} {f : α → Tr β} {n m : Nat} {P : α → Prop} {Q : β → Prop} (h : Ok t n P) (k : ∀ a, P a → Ok (f a) m Q) : Ok (t.bind f) (n + m) Q := by
  refine ⟨fun b hb => ?_⟩
  refine (Tr.All_bind _ _ _ _).mpr (Tr.All_mono (h.run b (by omega)) fun a c ⟨h1, h2⟩ => Tr.All_mono ((k a h2).run c (by omega)) fun x d ⟨h3, h4⟩ => ⟨by omega, h4⟩)
theorem ok_draw {l : Nat} (h1 : 1 ≤ l) (h2 : l < 1000) : Ok (m_law_draw [.orc, .val (nI l)]) 1 fun d => ∃ i, i < l ∧ d = nI i := by
  refine ⟨fun b hb => ?_⟩
  have e : m_law_draw [.orc, .val (nI l)] = .draw l fun i => .ret (nI i) := by
    show (if 1 ≤ (l : Int) ∧ (l : Int) < 1073741824 then Tr.draw (l : Int).toNat fun i => Tr.ret (PyData.int (i : Nat)) else Tr.fail : Tr D) = _
    rw [if_pos (by omega), Int.toNat_natCast]
    rfl
  rw [e]
  exact ⟨b - 1, by omega, fun i hi => ⟨by omega, i, hi, rfl⟩⟩
theorem comp_ok {tgt : FG} {t : FT} {fe : FE} {env : Ev} {P : D → Prop} {k : Nat} : ∀ (ds : List D), (∀ d ∈ ds, ∃ env1, tgt d env = some env1 ∧ t env1 = .ret true ∧ Ok (fe env1) k P) → Ok (compD tgt t fe env ds) (k * ds.length) fun ys => ys.length = ds.length ∧ ∀ y ∈ ys, P y
  | [], _ => Ok.ret ⟨rfl, fun _ h => nomatch h⟩
  | d :: ds, h => by
    obtain ⟨e1, h1, h2, h3⟩ := h d List.mem_cons_self
    have e : compD tgt t fe env (d :: ds) = (fe e1).bind fun y => (compD tgt t fe env ds).bind fun ys => .ret (y :: ys) := by
      rw [compD, h1]
      dsimp only
      rw [h2, bret, if_pos rfl]
    rw [e]
    have q := Ok.bind (m := k * ds.length + 0) h3 fun y hy => Ok.bind (f := fun ys => .ret (y :: ys)) (Q := fun zs : List D => zs.length = (d :: ds).length ∧ ∀ z ∈ zs, P z) (comp_ok ds fun d hd => h d (List.mem_cons_of_mem _ hd)) fun ys ⟨hl, hy2⟩ => Ok.ret ⟨by rw [List.length_cons, List.length_cons, hl], fun z hz => by
      rcases List.mem_cons.mp hz with e | hz
      · rw [e]; exact hy
      · exact hy2 z hz⟩
    refine q.mono ?_ fun _ h => h
    rw [List.length_cons, Nat.mul_succ]
    omega
theorem end_ok {tgt : FG} {t : FT} {fe : FE} {env : Ev} {P : D → Prop} {k : Nat} {ds : List D} (hl : ds.length ≤ 1000) (h : ∀ d ∈ ds, ∃ env1, tgt d env = some env1 ∧ t env1 = .ret true ∧ Ok (fe env1) k P) : Ok (endComp tgt t fe env ds) (k * ds.length) fun d => ∃ ys, d = .list ys ∧ ys.length = ds.length ∧ ∀ y ∈ ys, P y := by
  unfold endComp
  rw [if_pos (sl1000 hl)]
  exact (Ok.bind (comp_ok ds h) fun ys ⟨h1, h2⟩ => Ok.ret ⟨ys, rfl, h1, h2⟩).mono (by omega) fun _ h => h
theorem ok_fn {n : Nat} {k : Kd} {fb : FS} {ss : List Slot} {m : Nat} {P : D → Prop} (h : Ok (fb (startE n ss)) m fun o => ∃ d, o = .rv d ∧ P d) : Ok (fnF n k fb ss) m P := by
  unfold fnF
  refine (Ok.bind (m := 0) h fun o ⟨d, e, hd⟩ => ?_).mono (by omega) fun _ h => h
  rw [e]
  exact Ok.ret hd
theorem ok_sret {f : FE} {env : Ev} {m : Nat} {P : D → Prop} (h : Ok (f env) m P) : Ok (sRet f env) m fun o => ∃ d, o = .rv d ∧ P d := by
  unfold sRet
  exact (Ok.bind (m := 0) h fun d hd => Ok.ret ⟨d, rfl, hd⟩).mono (by omega) fun _ h => h
theorem ok_call {F : List Slot → Tr D} {r : FA} {env : Ev} {n m : Nat} {P : List Slot → Prop} {Q : D → Prop} (h : Ok (r env) n P) (k : ∀ ss, P ss → Ok (F ss) m Q) : Ok (eCall F r env) (n + m) Q := Ok.bind h k
theorem ok_a1 {f : FE} {env : Ev} {n : Nat} {P : D → Prop} (h : Ok (f env) n P) : Ok (aVal f aNil env) n fun ss => ∃ d, ss = [.val d] ∧ P d := by
  unfold aVal aNil
  exact (Ok.bind (m := 0) h fun d hd => Ok.of (a := [.val d]) rfl ⟨d, rfl, hd⟩).mono (by omega) fun _ h => h
end FL
end
section
set_option linter.all false
set_option maxRecDepth 100000
namespace FL
open PySem PySem.Spec PyProof.Rows L2 DL FM
abbrev Deed := Nat × Nat
def wD : Nat → D
  | 0 => .str "cut"
  | 1 => .str "hook"
  | 2 => .str "join"
  | _ => .str "swap"
def dD (d : Deed) : D := .tuple [wD d.1, nI d.2]
def most (c w : Nat) : Nat := if w = 0 then c else c - 1
def deedsOf (c : Nat) (ws : List Nat) : List Deed := ws.flatMap fun w => (List.range (most c w)).map fun p => (w, p)
def dF (c : Nat) (d : Deed) : List Nat :=
  let b := List.range c ++ List.range c
  renum (match d.1 with
  | 0 => b.set (c + d.2) c
  | 1 => ((b.set (d.2 + 1) d.2).set (c + d.2) c).set (c + d.2 + 1) c
  | 2 => ((b.set (d.2 + 1) d.2).set (c + d.2) d.2).set (c + d.2 + 1) d.2
  | _ => (b.set (c + d.2) (d.2 + 1)).set (c + d.2 + 1) d.2)
def fams : List (List Nat) := [[0], [1], [0, 1], [2], [0, 2], [1, 2], [0, 1, 2], [3], [0, 3], [1, 3], [0, 1, 3], [2, 3], [0, 2, 3], [1, 2, 3], [0, 1, 2, 3]]
def famD (ws : List Nat) : D := .tuple (ws.map wD)
def cords : List Nat := [1, 2, 3, 4, 5]
theorem in_cords {c : Nat} (h1 : 1 ≤ c) (h5 : c ≤ 5) : c ∈ cords := by
  have : c = 1 ∨ c = 2 ∨ c = 3 ∨ c = 4 ∨ c = 5 := by omega
  rcases this with rfl | rfl | rfl | rfl | rfl <;> simp [cords]
def deedB (c : Nat) (d : Deed) : Bool := isRet (m_law_deed [.val (nI c), .val (dD d)]) (fD (dF c d)) && isRet (m_figure_of_deed [.val (nI c), .val (dD d)]) (fD (dF c d)) && isRet (m_is_deed [.val (nI c), .val (dD d)]) (.bool true) && decide ((dF c d).length = 2 * c) && decide (renum (dF c d) = dF c d)
theorem deeds_all : (cords.all fun c => (deedsOf c [0, 1, 2, 3]).all fun d => deedB c d) = true := by decide +kernel
structure DeedOk (c : Nat) (d : Deed) : Prop where
  law : m_law_deed [.val (nI c), .val (dD d)] = .ret (fD (dF c d))
  prog : m_figure_of_deed [.val (nI c), .val (dD d)] = .ret (fD (dF c d))
  isd : m_is_deed [.val (nI c), .val (dD d)] = .ret (.bool true)
  val : Val c (dF c d)
theorem deed_ok {c : Nat} (h1 : 1 ≤ c) (h5 : c ≤ 5) {d : Deed} (hd : d ∈ deedsOf c [0, 1, 2, 3]) : DeedOk c d := by
  have h := List.all_eq_true.mp (List.all_eq_true.mp deeds_all c (in_cords h1 h5)) d hd
  unfold deedB at h
  rw [Bool.and_eq_true, Bool.and_eq_true, Bool.and_eq_true, Bool.and_eq_true] at h
  exact ⟨isRet_ok h.1.1.1.1, isRet_ok h.1.1.1.2, isRet_ok h.1.1.2, ⟨of_decide_eq_true h.1.2, of_decide_eq_true h.2⟩⟩
/-- the deeds of a family, and whether there are none -/
def famB (c : Nat) (ws : List Nat) : Bool := isRet (m_law_deeds [.val (nI c), .val (famD ws)]) (.list ((deedsOf c ws).map dD)) && (match dEq (.list ((deedsOf c ws).map dD)) (.list []) with | some (.bool b) => b == (deedsOf c ws).isEmpty | _ => false) && (deedsOf c ws).all fun d => (deedsOf c [0, 1, 2, 3]).contains d
theorem fams_all : (cords.all fun c => fams.all fun ws => famB c ws) = true := by decide +kernel
theorem fam_ok {c : Nat} (h1 : 1 ≤ c) (h5 : c ≤ 5) {ws : List Nat} (hw : ws ∈ fams) : m_law_deeds [.val (nI c), .val (famD ws)] = .ret (.list ((deedsOf c ws).map dD)) ∧ dEq (.list ((deedsOf c ws).map dD)) (.list []) = some (.bool (deedsOf c ws).isEmpty) ∧ ∀ d ∈ deedsOf c ws, d ∈ deedsOf c [0, 1, 2, 3] := by
  have h := List.all_eq_true.mp (List.all_eq_true.mp fams_all c (in_cords h1 h5)) ws hw
  unfold famB at h
  rw [Bool.and_eq_true, Bool.and_eq_true] at h
  refine ⟨isRet_ok h.1.1, ?_, fun d hd => ?_⟩
  · have q := h.1.2
    split at q
    · rename_i b e
      rw [e, eq_of_beq q]
    · cases q
  · have q := List.all_eq_true.mp h.2 d hd
    exact List.contains_iff_mem.mp q
theorem Ok.draw {α : Type} {n m : Nat} {k : Nat → Tr α} {P : α → Prop} (h : ∀ i, i < n → Ok (k i) m P) : Ok (.draw n k) (m + 1) P := ⟨fun b hb => ⟨b - 1, by omega, fun i hi => Tr.All_mono ((h i hi).run (b - 1) (by omega)) fun a c ⟨h1, h2⟩ => ⟨by omega, h2⟩⟩⟩
theorem ok_of {L : List D} (h0 : L ≠ []) (hl : L.length < 1000) : Ok (m_law_of [.orc, .val (.list L)]) 1 fun d => d ∈ L := by
  have hp : 0 < L.length := List.length_pos_iff.mpr h0
  have d1 : m_law_draw [.orc, .val (nI L.length)] = .draw L.length fun i => .ret (nI i) := by
    show (if 1 ≤ (L.length : Int) ∧ (L.length : Int) < 1073741824 then Tr.draw (L.length : Int).toNat fun i => Tr.ret (PyData.int (i : Nat)) else Tr.fail : Tr D) = _
    rw [if_pos (by omega), Int.toNat_natCast]
    rfl
  have d2 : eCall m_law_draw (aOrc 0 (aVal (eCB dLenA (lCons (eVar 1) lNil)) aNil)) (startE 2 [.orc, .val (.list L)]) = .draw L.length fun i => .ret (nI i) := d1
  have d3 : e2 dIx (eVar 1) (eCall m_law_draw (aOrc 0 (aVal (eCB dLenA (lCons (eVar 1) lNil)) aNil))) (startE 2 [.orc, .val (.list L)]) = .draw L.length fun i => Tr.ofOpt (dIx (.list L) (nI i)) := by
    unfold e2
    rw [show eVar 1 (startE 2 [.orc, .val (.list L)]) = .ret (.list L) from rfl, bret, d2]
    rfl
  unfold m_law_of
  refine ok_fn ?_
  refine ok_sret ?_
  rw [d3]
  refine Ok.draw (m := 0) fun i hi => ?_
  have q : dIx (.list L) (nI i) = some L[i] := by
    unfold nI
    rw [dIx_l, List.getElem?_eq_getElem hi]
  rw [q]
  exact Ok.ret (List.getElem_mem hi)
def rowD (ds : List Deed) : D := .tuple (ds.map dD)
theorem deeds_of {c : Nat} {ws : List Nat} : ∀ {ys : List D}, (∀ y ∈ ys, y ∈ (deedsOf c ws).map dD) → ∃ ds : List Deed, ys = ds.map dD ∧ ∀ d ∈ ds, d ∈ deedsOf c ws
  | [], _ => ⟨[], rfl, fun _ h => nomatch h⟩
  | y :: ys, h => by
    obtain ⟨d, h1, rfl⟩ := List.mem_map.mp (h y List.mem_cons_self)
    obtain ⟨ds, e, h2⟩ := deeds_of (ys := ys) fun y hy => h y (List.mem_cons_of_mem _ hy)
    exact ⟨d :: ds, by rw [e]; rfl, fun z hz => by
      rcases List.mem_cons.mp hz with e | hz
      · rw [e]; exact h1
      · exact h2 z hz⟩
end FL
end
section
set_option linter.all false
set_option maxRecDepth 100000
namespace FL
open PySem PySem.Spec PyProof.Rows L2 DL FM
theorem row_tuple {ds : List Deed} (h : ds.length ≤ 40) : m_is_tuple_of_at_most [.val (rowD ds), .val (.int 40)] = .ret (.bool true) := by
  have e : dLe (nI (ds.map dD).length) (.int 40) = some (.bool true) := by
    have q : ((ds.map dD).length : Int) ≤ 40 := by rw [List.length_map]; omega
    show some (PyData.bool (decide (((ds.map dD).length : Int) ≤ 40))) = _
    rw [decide_eq_true q]
  have l : eCB dLenA (lCons (eVar 0) lNil) (startE 2 [.val (rowD ds), .val (.int 40)]) = .ret (nI (ds.map dD).length) := rfl
  have a : e2 dLe (eCB dLenA (lCons (eVar 0) lNil)) (eVar 1) (startE 2 [.val (rowD ds), .val (.int 40)]) = .ret (.bool true) := e2_r l (y := .int 40) rfl e
  have b : eTy false "tuple" (eVar 0) (startE 2 [.val (rowD ds), .val (.int 40)]) = .ret (.bool true) := rfl
  unfold m_is_tuple_of_at_most
  refine fn_v (d := .bool true) (ret_rv ?_)
  unfold vAnd
  rw [b, bret]
  exact a
abbrev bNeed : FS := sIf (bNot (tt (eCall m_is_deed (aVal (eVar 0) (aVal (eVar 3) aNil))))) (fun _ => .fail) sNext
theorem need_walk {c : Nat} (h1 : 1 ≤ c) (h5 : c ≤ 5) {R : D} : ∀ (ds : List Deed) (i : Nat) (d2 d3 : Option Slot), (∀ d ∈ ds, d ∈ deedsOf c [0, 1, 2, 3]) → ∃ e2 e3, forD (gT 2 (gsCons (gN 2) (gsCons (gN 3) gsNil))) bNeed (pairsFrom i (ds.map dD)) [some (.val (nI c)), some (.val R), d2, d3] = .ret (.nx [some (.val (nI c)), some (.val R), e2, e3])
  | [], i, d2, d3, _ => ⟨d2, d3, rfl⟩
  | d :: ds, i, d2, d3, h => by
    obtain ⟨e2, e3, q⟩ := need_walk h1 h5 (R := R) ds (i + 1) (some (.val (.int i))) (some (.val (dD d))) fun d hd => h d (List.mem_cons_of_mem _ hd)
    have k := (deed_ok h1 h5 (h d List.mem_cons_self)).isd
    have a : eCall m_is_deed (aVal (eVar 0) (aVal (eVar 3) aNil)) [some (.val (nI c)), some (.val R), some (.val (.int i)), some (.val (dD d))] = .ret (.bool true) := call_r (aC (d := nI c) rfl (a1 (d := dD d) rfl)) k
    have b : bNeed [some (.val (nI c)), some (.val R), some (.val (.int i)), some (.val (dD d))] = .ret (.nx [some (.val (nI c)), some (.val R), some (.val (.int i)), some (.val (dD d))]) := by
      unfold bNeed sIf bNot tt
      rw [a]
      rfl
    refine ⟨e2, e3, ?_⟩
    rw [List.map_cons, pairsFrom, forD]
    show ((bNeed [some (.val (nI c)), some (.val R), some (.val (.int i)), some (.val (dD d))]).bind _) = _
    rw [b]
    exact q
theorem v_need_row {c : Nat} (h1 : 1 ≤ c) (h5 : c ≤ 5) {ds : List Deed} (hl : ds.length ≤ 40) (hd : ∀ d ∈ ds, d ∈ deedsOf c [0, 1, 2, 3]) : m_need_row [.val (nI c), .val (rowD ds)] = .ret .none := by
  have a : eCall m_is_tuple_of_at_most (aVal (eVar 1) (aVal (eC (.int 40)) aNil)) (startE 4 [.val (nI c), .val (rowD ds)]) = .ret (.bool true) := call_r (aC (d := rowD ds) rfl (a1 (d := .int 40) rfl)) (row_tuple hl)
  have s1 : sIf (bNot (tt (eCall m_is_tuple_of_at_most (aVal (eVar 1) (aVal (eC (.int 40)) aNil))))) (fun _ => .fail) sNext (startE 4 [.val (nI c), .val (rowD ds)]) = .ret (.nx (startE 4 [.val (nI c), .val (rowD ds)])) := by
    unfold sIf bNot tt
    rw [a]
    rfl
  obtain ⟨e2, e3, q⟩ := need_walk h1 h5 (R := rowD ds) ds 0 none none hd
  have s2 : sForE (lCons (eVar 1) lNil) (gT 2 (gsCons (gN 2) (gsCons (gN 3) gsNil))) bNeed (startE 4 [.val (nI c), .val (rowD ds)]) = .ret (.nx [some (.val (nI c)), some (.val (rowD ds)), e2, e3]) := q
  unfold m_need_row fnF
  have s3 := (seq_nx (g := sForE (lCons (eVar 1) lNil) (gT 2 (gsCons (gN 2) (gsCons (gN 3) gsNil))) bNeed) s1).trans s2
  rw [show sSeq (sIf (bNot (tt (eCall m_is_tuple_of_at_most (aVal (eVar 1) (aVal (eC (.int 40)) aNil))))) (fun _ => .fail) sNext) (sForE (lCons (eVar 1) lNil) (gT 2 (gsCons (gN 2) (gsCons (gN 3) gsNil))) (sIf (bNot (tt (eCall m_is_deed (aVal (eVar 0) (aVal (eVar 3) aNil))))) (fun _ => .fail) sNext)) (startE 4 [.val (nI c), .val (rowD ds)]) = .ret (.nx [some (.val (nI c)), some (.val (rowD ds)), e2, e3]) from s3]
  rfl
theorem last_ix {hs : List D} {x : D} : dIx (.list (hs ++ [x])) (.int (-1)) = some x := by
  unfold dIx
  dsimp only
  unfold atI ixN
  rw [if_neg (by omega), if_pos (by rw [List.length_append]; simp; omega)]
  rw [List.length_append, List.length_cons, List.length_nil, show ((-1 : Int) + ((hs.length + (0 + 1) : Nat) : Int)).toNat = hs.length by omega]
  simp
theorem last_ixT {hs : List D} {x : D} : dIx (.tuple (hs ++ [x])) (.int (-1)) = some x := last_ix
theorem neg1 {env : Ev} : eNeg (eC (.int 1)) env = .ret (.int (-1)) := rfl
def rstep (c : Nat) (s : List Nat × Nat) (d : Deed) : List Nat × Nat := (uponL c s.1 (dF c d), s.2 + leftL c s.1 (dF c d))
def rowS (c : Nat) (ds : List Deed) : List Nat × Nat := ds.foldl (rstep c) (stL c, 0)
end FL
end
section
set_option linter.all false
set_option maxRecDepth 100000
namespace FL
open PySem PySem.Spec PyProof.Rows L2 DL FM
end FL
end
section
set_option linter.all false
set_option maxRecDepth 100000
namespace FL
open PySem PySem.Spec PyProof.Rows L2 DL FM
end FL
end
section
set_option linter.all false
set_option maxRecDepth 100000
namespace FL
open PySem PySem.Spec PyProof.Rows L2 DL FM
theorem ok_app {a b : Str} (ha : PyData.strOk a = true) (hb : PyData.strOk b = true) : PyData.strOk (a ++ b) = true := by
  unfold PyData.strOk at *
  rw [PySem.Str.cps_append, Array.all_append, ha, hb]
  rfl
theorem ok_text : ∀ (ts : List Str) (k : Nat) (acc : Str), PyData.strOk acc = true → (∀ t ∈ ts, PyData.strOk t = true) → PyData.strOk (textFrom k acc ts) = true
  | [], k, acc, h, _ => h
  | t :: ts, k, acc, h, ht => ok_text ts (k + 1) _ (ok_app (ok_app h (by split <;> decide +kernel)) (ht t List.mem_cons_self)) fun y hy => ht y (List.mem_cons_of_mem _ hy)
theorem ok_join : ∀ (ts : List Str), (∀ t ∈ ts, PyData.strOk t = true) → PyData.strOk (Str.join ", " ts) = true
  | [], _ => by decide +kernel
  | [x], h => h x List.mem_cons_self
  | x :: y :: r, h => ok_app (ok_app (h x List.mem_cons_self) (by decide +kernel)) (ok_join (y :: r) fun z hz => h z (List.mem_cons_of_mem _ hz))
structure Sh (d : D) (k w : Nat) : Prop where
  o : PyData.strOk d.shown = true
  s : d.showable = true
  h : d.hasDict = false
  p : d.depth ≤ k
  l : d.shown.length ≤ w
theorem shownAll_map : ∀ xs : List D, PyData.shownAll xs = xs.map PyData.shown
  | [] => rfl
  | x :: xs => by
    rw [List.map_cons, ← shownAll_map xs]
    rfl
theorem showAll {k w : Nat} : ∀ xs : List D, (∀ x ∈ xs, Sh x k w) → PyData.showableAll xs = true ∧ PyData.hasDictAll xs = false ∧ PyData.depthAll xs ≤ k
  | [], _ => ⟨rfl, rfl, Nat.zero_le _⟩
  | x :: xs, h => by
    obtain ⟨h1, h2, h3⟩ := showAll xs fun y hy => h y (List.mem_cons_of_mem _ hy)
    have q := h x List.mem_cons_self
    refine ⟨?_, ?_, ?_⟩
    · show (x.showable && PyData.showableAll xs) = true
      rw [q.s, h1]
      rfl
    · show (x.hasDict || PyData.hasDictAll xs) = false
      rw [q.h, h2]
      rfl
    · show max x.depth (PyData.depthAll xs) ≤ k
      have := q.p
      omega
theorem text_le {w : Nat} : ∀ (ts : List Str) (k : Nat) (acc : Str), (∀ t ∈ ts, t.length ≤ w) → (textFrom k acc ts).length ≤ acc.length + ts.length * (w + 2)
  | [], k, acc, _ => Nat.le_add_right _ _
  | t :: ts, k, acc, h => by
    have ih := text_le ts (k + 1) (acc ++ (if k > 0 then ", " else "" : String) ++ t) fun y hy => h y (List.mem_cons_of_mem _ hy)
    have ht := h t List.mem_cons_self
    have e : (acc ++ (if k > 0 then ", " else "" : String) ++ t).length ≤ acc.length + 2 + t.length := by
      rw [strLen_append, strLen_append]
      split
      · have e2 : ((", " : String) : Str).length = 2 := rfl
        omega
      · have e2 : (("" : String) : Str).length = 0 := rfl
        omega
    show (textFrom (k + 1) (acc ++ (if k > 0 then ", " else "" : String) ++ t) ts).length ≤ _
    rw [List.length_cons, Nat.succ_mul]
    omega
theorem join_le {w : Nat} : ∀ (ts : List Str), (∀ t ∈ ts, t.length ≤ w) → (Str.join ", " ts).length ≤ ts.length * (w + 2)
  | [], _ => Nat.zero_le _
  | [x], h => by
    have := h x List.mem_cons_self
    show x.length ≤ 1 * (w + 2)
    omega
  | x :: y :: r, h => by
    have ih := join_le (y :: r) fun y hy => h y (List.mem_cons_of_mem _ hy)
    have hx := h x List.mem_cons_self
    show (x ++ ", " ++ Str.join ", " (y :: r)).length ≤ _
    rw [strLen_append, strLen_append, List.length_cons, Nat.succ_mul]
    have e2 : ((", " : String) : Str).length = 2 := rfl
    omega
theorem Sh.list {xs : List D} {k w n : Nat} (h : ∀ x ∈ xs, Sh x k w) (hn : xs.length ≤ n) : Sh (.list xs) (k + 1) (2 + n * (w + 2)) := by
  obtain ⟨h1, h2, h3⟩ := showAll xs h
  have h0 : ∀ t ∈ PyData.shownAll xs, PyData.strOk t = true := fun t ht => by
    rw [shownAll_map] at ht
    obtain ⟨x, hx, rfl⟩ := List.mem_map.mp ht
    exact (h x hx).o
  refine ⟨ok_app (ok_text _ _ _ (by decide +kernel) h0) (by decide +kernel), h1, h2, ?_, ?_⟩
  · show PyData.depthAll xs + 1 ≤ k + 1
    omega
  · show (textFrom 0 "[" (PyData.shownAll xs) ++ "]").length ≤ _
    have q := text_le (w := w) (PyData.shownAll xs) 0 "[" fun t ht => by
      rw [shownAll_map] at ht
      obtain ⟨x, hx, rfl⟩ := List.mem_map.mp ht
      exact (h x hx).l
    rw [strLen_append]
    have e1 : (("[" : String) : Str).length = 1 := rfl
    have e2 : (("]" : String) : Str).length = 1 := rfl
    rw [shownAll_map, List.length_map] at q
    have m := Nat.mul_le_mul_right (w + 2) hn
    rw [shownAll_map]
    omega
theorem Sh.tuple {xs : List D} {k w n : Nat} (h : ∀ x ∈ xs, Sh x k w) (hn : xs.length ≤ n) : Sh (.tuple xs) (k + 1) (3 + n * (w + 2)) := by
  obtain ⟨h1, h2, h3⟩ := showAll xs h
  have h0 : ∀ t ∈ PyData.shownAll xs, PyData.strOk t = true := fun t ht => by
    rw [shownAll_map] at ht
    obtain ⟨x, hx, rfl⟩ := List.mem_map.mp ht
    exact (h x hx).o
  refine ⟨ok_app (ok_app (by decide +kernel) (ok_join _ h0)) (by split <;> decide +kernel), h1, h2, ?_, ?_⟩
  · show PyData.depthAll xs + 1 ≤ k + 1
    omega
  · show (("(" : Str) ++ Str.join ", " (PyData.shownAll xs) ++ (if (PyData.shownAll xs).length == 1 then ",)" else ")" : String)).length ≤ _
    have q := join_le (w := w) (PyData.shownAll xs) fun t ht => by
      rw [shownAll_map] at ht
      obtain ⟨x, hx, rfl⟩ := List.mem_map.mp ht
      exact (h x hx).l
    rw [strLen_append, strLen_append]
    have e1 : (("(" : String) : Str).length = 1 := rfl
    rw [shownAll_map, List.length_map] at q
    have m := Nat.mul_le_mul_right (w + 2) hn
    rw [shownAll_map]
    split
    · have e2 : ((",)" : String) : Str).length = 2 := rfl
      omega
    · have e2 : ((")" : String) : Str).length = 1 := rfl
      omega
theorem Sh.mono {d : D} {k w k' w' : Nat} (h : Sh d k w) (hk : k ≤ k') (hw : w ≤ w') : Sh d k' w' := ⟨h.o, h.s, h.h, Nat.le_trans h.p hk, Nat.le_trans h.l hw⟩
theorem sh_all : ((List.range 1000).all fun n => (decide ((nI n).shown.length ≤ 3) && (nI n).showable) && PyData.strOk (nI n).shown) = true := by decide +kernel
theorem Sh.int {n : Nat} (h : n < 1000) : Sh (nI n) 0 3 := by
  have q := List.all_eq_true.mp sh_all n (List.mem_range.mpr h)
  rw [Bool.and_eq_true, Bool.and_eq_true] at q
  exact ⟨q.2, q.1.2, rfl, Nat.le_refl _, of_decide_eq_true q.1.1⟩
end FL
end
section
set_option linter.all false
set_option maxRecDepth 100000
namespace FL
open PySem PySem.Spec PyProof.Rows L2 DL FM
theorem ok_cb1 {g : List D → Option D} {f : FE} {env : Ev} {n : Nat} {P Q : D → Prop} (h : Ok (f env) n P) (k : ∀ d, P d → ∃ x, g [d] = some x ∧ Q x) : Ok (eCB g (lCons f lNil) env) n Q := by
  unfold eCB lCons lNil
  refine (Ok.bind (m := 0) (P := fun ds => ∃ d, ds = [d] ∧ P d) ((Ok.bind (m := 0) h fun d hd => Ok.of (a := [d]) rfl ⟨d, rfl, hd⟩).mono (Nat.le_refl _) fun _ h => h) ?_).mono (by omega) fun _ h => h
  rintro ds ⟨d, rfl, hd⟩
  obtain ⟨x, e, hx⟩ := k d hd
  rw [e]
  exact Ok.ret hx
theorem ok_l1 {f : FE} {env : Ev} {n : Nat} {P : D → Prop} (h : Ok (f env) n P) : Ok (lCons f lNil env) n fun ds => ∃ d, ds = [d] ∧ P d := by
  unfold lCons lNil
  exact (Ok.bind (m := 0) h fun d hd => Ok.of (a := [d]) rfl ⟨d, rfl, hd⟩).mono (Nat.le_refl _) fun _ h => h
theorem ok_compR {r : FL} {tgt : FG} {t : FT} {fe : FE} {vs : List Nat} {env : Ev} {n m : Nat} {P : List D → Prop} {Q : D → Prop} (h : Ok (r env) n P) (k : ∀ ds, P ds → ∃ lo l, rngOf ds = some (lo, l) ∧ Ok (endComp tgt t fe (wipeE env vs) (rngD lo l)) m Q) : Ok (eCompR r tgt t fe vs env) (n + m) Q := by
  unfold eCompR
  refine Ok.bind h fun ds hd => ?_
  obtain ⟨lo, l, e, q⟩ := k ds hd
  rw [e]
  exact q
theorem aO {i : Nat} {r : FA} {env : Ev} {ss : List Slot} (h : env[i]? = some (some .orc)) (hr : r env = .ret ss) : aOrc i r env = .ret (.orc :: ss) := by
  unfold aOrc
  rw [h]
  dsimp only
  rw [hr]
  rfl
theorem ok_callr {F : List Slot → Tr D} {r : FA} {env : Ev} {ss : List Slot} {n : Nat} {Q : D → Prop} (h : r env = .ret ss) (hF : Ok (F ss) n Q) : Ok (eCall F r env) n Q := by
  rw [call_r h rfl]
  exact hF
def cRow : FE := eCompR (lCons (eCall m_law_draw (aOrc 0 (aVal (e2 dAddA (eVar 3) (eC (.int 1))) aNil))) lNil) (gN 5) fYes (eCall m_law_of (aOrc 0 (aVal (eVar 4) aNil))) [5]
def rE (c M : Nat) (F L : D) : Ev := [some .orc, some (.val (nI c)), some (.val F), some (.val (nI M)), some (.val L), none]
theorem deeds_few {c : Nat} (h5 : c ≤ 5) {ws : List Nat} (hw : ws.length ≤ 4) : (deedsOf c ws).length ≤ 20 := by
  unfold deedsOf
  have g : ∀ ws : List Nat, (ws.flatMap fun w => (List.range (most c w)).map fun p => ((w, p) : Deed)).length ≤ 5 * ws.length := by
    intro ws
    induction ws with
    | nil => exact Nat.le_refl _
    | cons w ws ih =>
      rw [List.flatMap_cons, List.length_append, List.length_cons, List.length_map, List.length_range]
      have : most c w ≤ 5 := by unfold most; split <;> omega
      omega
  have := g ws
  omega
theorem fams_len : ∀ ws ∈ fams, ws.length ≤ 4 := by decide
theorem cut_takeD (L : List D) (n : Nat) : DL.cutD L none (some (n : Int)) = L.take n := by
  unfold DL.cutD
  rw [HT.sIx_none, HT.sIx_nat, List.drop_zero, Nat.sub_zero]
  by_cases h : n ≤ L.length
  · rw [Nat.min_eq_left h]
  · rw [Nat.min_eq_right (by omega), List.take_of_length_le (Nat.le_refl _), List.take_of_length_le (by omega)]
theorem cut_dropD (L : List D) (n : Nat) : DL.cutD L (some (n : Int)) none = L.drop n := by
  unfold DL.cutD
  rw [HT.sIx_none, HT.sIx_nat]
  by_cases h : n ≤ L.length
  · rw [Nat.min_eq_left h, List.take_of_length_le (by simp)]
  · rw [Nat.min_eq_right (by omega), List.drop_of_length_le (by omega : L.length ≤ n)]
    simp
theorem rowS_L (c : Nat) (ds : List Deed) : rowS c ds = rowL c (ds.map (dF c)) := by
  unfold rowS rowL rowF
  rw [List.foldl_map]
  rfl
end FL
end
section
set_option linter.all false
set_option maxRecDepth 100000
namespace FL
open PySem PySem.Spec PyProof.Rows L2 DL FM
theorem lst2 {fa fb : FE} {env : Ev} {x y : D} (ha : fa env = .ret x) (hb : fb env = .ret y) : eLst (lCons fa (lCons fb lNil)) env = .ret (.list [x, y]) := by
  have e : lCons fa (lCons fb lNil) env = .ret [x, y] := by
    show (fa env).bind _ = _
    rw [ha, bret, lc1 hb]
    rfl
  unfold eLst
  rw [e, bret]
  exact if_pos (show 2 ≤ sizeLine by decide)
theorem lst3 {fa fb fc : FE} {env : Ev} {x y z : D} (ha : fa env = .ret x) (hb : fb env = .ret y) (hc : fc env = .ret z) : eLst (lCons fa (lCons fb (lCons fc lNil))) env = .ret (.list [x, y, z]) := by
  have e : lCons fa (lCons fb (lCons fc lNil)) env = .ret [x, y, z] := by
    show (fa env).bind _ = _
    rw [ha, bret]
    show ((lCons fb (lCons fc lNil) env).bind _) = _
    have e : lCons fb (lCons fc lNil) env = .ret [y, z] := by
      show (fb env).bind _ = _
      rw [hb, bret, lc1 hc]
      rfl
    rw [e]
    rfl
  unfold eLst
  rw [e, bret]
  exact if_pos (show 3 ≤ sizeLine by decide)
theorem lst1 {fa : FE} {env : Ev} {x : D} (ha : fa env = .ret x) : eLst (lCons fa lNil) env = .ret (.list [x]) := by
  unfold eLst
  rw [lc1 ha, bret]
  exact if_pos (show 1 ≤ sizeLine by decide)
section
variable {S R Y : D} {c : Nat} {d2 d5 d6 d9 d10 : Option Slot} {A B : List Nat} {ds : List Deed}
end
end FL
end
section
set_option linter.all false
set_option maxRecDepth 100000
namespace FL
open PySem PySem.Spec PyProof.Rows L2 DL FM
theorem ok_seq {f g : FS} {env : Ev} {n m : Nat} {P : Ev → Prop} {Q : Out → Prop} (h : Ok (f env) n fun o => ∃ e, o = .nx e ∧ P e) (k : ∀ e, P e → Ok (g e) m Q) : Ok (sSeq f g env) (n + m) Q := by
  unfold sSeq
  refine Ok.bind h fun o ⟨e, eo, he⟩ => ?_
  subst eo
  exact k e he
theorem ok_set {i : Nat} {f : FE} {env : Ev} {n : Nat} {P : D → Prop} (h : Ok (f env) n P) : Ok (sSet i f env) n fun o => ∃ e, o = .nx e ∧ ∃ d, P d ∧ e = env.set i (some (.val d)) := by
  unfold sSet
  exact (Ok.bind (m := 0) h fun d hd => Ok.ret ⟨_, rfl, d, hd, rfl⟩).mono (Nat.le_refl _) fun _ h => h
theorem ok_e2r {g : D → D → Option D} {fa fb : FE} {env : Ev} {x : D} {n : Nat} {P Q : D → Prop} (ha : fa env = .ret x) (hb : Ok (fb env) n P) (k : ∀ y, P y → ∃ z, g x y = some z ∧ Q z) : Ok (e2 g fa fb env) n Q := by
  unfold e2
  rw [ha, bret]
  refine (Ok.bind (m := 0) hb fun y hy => ?_).mono (Nat.le_refl _) fun _ h => h
  obtain ⟨z, e, hz⟩ := k y hy
  rw [e]
  exact Ok.ret hz
theorem ok_e2l {g : D → D → Option D} {fa fb : FE} {env : Ev} {y : D} {n : Nat} {P Q : D → Prop} (ha : Ok (fa env) n P) (hb : fb env = .ret y) (k : ∀ x, P x → ∃ z, g x y = some z ∧ Q z) : Ok (e2 g fa fb env) n Q := by
  unfold e2
  refine (Ok.bind (m := 0) ha fun x hx => ?_).mono (Nat.le_refl _) fun _ h => h
  rw [hb, bret]
  obtain ⟨z, e, hz⟩ := k x hx
  rw [e]
  exact Ok.ret hz
theorem ok_tt {f : FE} {env : Ev} {n : Nat} (h : Ok (f env) n fun d => ∃ b, d = .bool b) : Ok (tt f env) n fun _ => True := by
  unfold tt
  refine (Ok.bind (m := 0) h fun d ⟨b, e⟩ => ?_).mono (Nat.le_refl _) fun _ h => h
  subst e
  exact Ok.ret trivial
theorem ok_if {c : FT} {f g : FS} {env : Ev} {n m : Nat} {Q : Out → Prop} (h : Ok (c env) n fun _ => True) (hf : Ok (f env) m Q) (hg : Ok (g env) m Q) : Ok (sIf c f g env) (n + m) Q := by
  unfold sIf
  refine Ok.bind h fun b _ => ?_
  cases b
  · exact hg
  · exact hf
theorem ok_for {tgt : FG} {body : FS} {I : Ev → Prop} {k : Nat} : ∀ (ds : List D) (env : Ev), I env → (∀ d env, I env → ∃ env1, tgt d env = some env1 ∧ Ok (body env1) k fun o => ∃ e, o = .nx e ∧ I e) → Ok (forD tgt body ds env) (k * ds.length) fun o => ∃ e, o = .nx e ∧ I e
  | [], env, h, _ => Ok.ret ⟨env, rfl, h⟩
  | d :: ds, env, h, st => by
    obtain ⟨e1, h1, q⟩ := st d env h
    rw [forD, h1]
    refine (Ok.bind (m := k * ds.length) q fun o ⟨e, eo, he⟩ => ?_).mono (by rw [List.length_cons, Nat.mul_succ]; omega) fun _ h => h
    subst eo
    exact ok_for ds e he st
theorem lc2 {f g : FE} {env : Ev} {x y : D} (h : f env = .ret x) (k : g env = .ret y) : lCons f (lCons g lNil) env = .ret [x, y] := by
  show (f env).bind _ = _
  rw [h, bret, lc1 k]
  rfl
theorem cb_r {g : List D → Option D} {r : FL} {env : Ev} {ds : List D} {x : D} (h : r env = .ret ds) (k : g ds = some x) : eCB g r env = .ret x := by
  unfold eCB
  rw [h, bret, k]
  rfl
section
variable {S : D} {d2 d3 d4 d5 d6 d7 d8 d9 d10 : Option Slot} {c : Nat}
end
end FL
end
section
set_option linter.all false
set_option maxRecDepth 100000
namespace FL
open PySem PySem.Spec PyProof.Rows L2 DL
def m_need_number : List Slot → Tr D := fnF 3 .v (sIf (bNot (tt (eCall m_is_between (aVal (eVar 0) (aVal (eVar 1) (aVal (eVar 2) aNil)))))) (fun _ => .fail) sNext)
end FL
end
section
set_option linter.all false
namespace FM
section
variable {ι : Type}
end
section
variable {c : Nat}
open Classical in
/-- a run of figures, each with A put on, below or above -/
structure Run (A : Fg c) (G : Nat → Fg c) : Prop where
  on : ∀ n, KF (G (n + 1)) (UP (G n) A)
  und : ∀ n, KF (G (n + 1)) (UP A (G n))
end
end FM
end
section
set_option linter.all false
set_option maxRecDepth 100000
namespace FM
def lists (n : Nat) : Nat → List (List Nat)
  | 0 => [[]]
  | k + 1 => (lists n k).flatMap fun l => (List.range n).map fun x => x :: l
def its (l : List Nat) : Nat → Nat → Nat
  | 0, y => y
  | k + 1, y => l.getD (its l k y) 0
section
variable {c : Nat}
open Classical in
end
end FM
end
section
set_option linter.all false
namespace FM
section
variable {c : Nat} {A : List Nat}
def pw (c : Nat) (A : List Nat) : Nat → List Nat
  | 0 => stL c
  | n + 1 => uponL c (pw c A n) A
/-- the first power that was there before: its number -/
structure Turn (c : Nat) (A : List Nat) (f T : Nat) : Prop where
  lt : f < T
  le : T ≤ 36
  eq : pw c A T = pw c A f
  un : ∀ i j, i < T → j < T → pw c A i = pw c A j → i = j
section
variable {f T : Nat}
end
end
end FM
end
section
set_option linter.all false
set_option maxRecDepth 100000
namespace FL
open PySem PySem.Spec PyProof.Rows L2 DL FM
end FL
end
section
set_option linter.all false
set_option maxRecDepth 100000
namespace FL
open PySem PySem.Spec PyProof.Rows L2 DL FM
theorem seq_rv {f g : FS} {env : Ev} {d : D} (h : f env = .ret (.rv d)) : sSeq f g env = .ret (.rv d) := by
  unfold sSeq
  rw [h]
  rfl
end FL
end
section
set_option linter.all false
namespace FM
section
variable {c : Nat} {A : List Nat}
variable {f T : Nat}
end
end FM
end
section
set_option linter.all false
set_option maxRecDepth 100000
namespace FL
open PySem PySem.Spec PyProof.Rows L2 DL FM
theorem expr_fn {f : FS} {n : Nat} {ss : List Slot} {e : Ev} (h : f (startE n ss) = .ret (.nx e)) : fnF n .v f ss = .ret .none := by
  unfold fnF
  rw [h]
  rfl
theorem dDivmod_n {a b : Nat} (h0 : 0 < b) (h1 : b < 1000) : dDivmod [nI a, nI b] = some (.tuple [nI (a / b), nI (a % b)]) := by
  unfold nI dDivmod
  dsimp only
  rw [if_pos ⟨by omega, by omega⟩]
  rfl
theorem tt_b {f : FE} {env : Ev} {b : Bool} (h : f env = .ret (.bool b)) : tt f env = .ret b := by
  unfold tt
  rw [h]
  rfl
end FL
end
section
set_option linter.all false
set_option maxRecDepth 100000
namespace FL
open PySem PySem.Spec PyProof.Rows L2 DL FM
theorem ok_aC {f : FE} {r : FA} {env : Ev} {x : D} {n : Nat} {P : List Slot → Prop} (h : f env = .ret x) (hr : Ok (r env) n P) : Ok (aVal f r env) n fun ss => ∃ ss', ss = .val x :: ss' ∧ P ss' := by
  unfold aVal
  rw [h, bret]
  exact (Ok.bind (m := 0) hr fun ss hs => Ok.ret ⟨ss, rfl, hs⟩).mono (Nat.le_refl _) fun _ h => h
end FL
end
section
set_option linter.all false
set_option maxRecDepth 100000
namespace FL
open PySem PySem.Spec PyProof.Rows L2 DL FM
section
variable {S : D} {c f T : Nat} {A : List Nat} {d2 d3 d4 d5 d6 d7 d8 d9 d10 d11 d12 d13 : Option Slot}
end
end FL
end
section
set_option linter.all false
set_option maxRecDepth 100000
namespace FL
open PySem PySem.Spec PyProof.Rows L2 DL
end FL
end
section
set_option linter.all false
set_option maxRecDepth 100000
namespace FL
open PySem PySem.Spec PyProof.Rows L2 DL FM
end FL
end
section
set_option linter.all false
set_option maxRecDepth 100000
namespace FL
open PySem PySem.Spec PyProof.Rows L2 DL FM
section
variable {S : D} {c n : Nat} {A : List Nat} {d2 d3 d4 d5 d6 d7 d8 d9 d10 : Option Slot}
end
end FL
end
section
set_option linter.all false
set_option maxRecDepth 100000
namespace FL
open PySem PySem.Spec PyProof.Rows L2 DL
def m_law_lots : List Slot → Tr D := fnF 9 .v (sSeq (sSet 3 (eCB dList (lCons (eVar 1) lNil))) (sSeq (sForR (lCons (eVar 0) lNil) (gN 4) (sForR (lCons (eVar 4) lNil) (gN 5) (sIf (bAnd (tt (e2 dEq (e2 dIx (eVar 2) (eVar 5)) (e2 dIx (eVar 2) (eVar 4)))) (tt (e2 dNe (e2 dIx (eVar 3) (eVar 5)) (e2 dIx (eVar 3) (eVar 4))))) (sSeq (sAsg (eTup (lCons (e2 dIx (eVar 3) (eVar 4)) (lCons (e2 dIx (eVar 3) (eVar 5)) lNil))) (gT 2 (gsCons (gN 6) (gsCons (gN 7) gsNil)))) (sSet 3 (eCompS (eVar 3) (gN 8) fYes (eIf (tt (e2 dEq (eVar 8) (eVar 6))) (eVar 7) (eVar 8)) [8]))) sNext))) (sRet (eCB dLenA (lCons (eCompR (lCons (eVar 0) lNil) (gN 4) (tt (e2 (dIn true) (e2 dIx (eVar 3) (eVar 4)) (eSl dSlA (eVar 3) oNone (oSome (eVar 4))))) (eVar 4) [4]) lNil)))))
end FL
end
section
set_option linter.all false
namespace FM
section
variable {c : Nat}
def allP (c : Nat) (Y : Fin c → Nat) : List (Fin c × Fin c) := (List.finRange c).flatMap fun i => ((List.finRange c).filter fun j => decide (Y i = Y j)).map fun j => (i, j)
def LT (X Y : Fin c → Nat) : Fin c → Nat := glue X (allP c Y)
variable {X Y X' Y' : Fin c → Nat} {i j : Fin c}
def bot (F : Fg c) : Fin c → Nat := fun i => F (true, i)
def top (F : Fg c) : Fin c → Nat := fun i => F (false, i)
def lot (F : Fg c) : Fin c → Nat := LT (bot F) (top F)
def opn (F : Fg c) (i : Fin c) : Prop := ∃ j, lot F j = lot F i ∧ ((∃ k, F (true, j) = F (false, k)) ∨ ∃ k, F (false, j) = F (true, k))
instance (F : Fg c) (i : Fin c) : Decidable (opn F i) := by unfold opn; infer_instance
variable {F : Fg c}
end
end FM
end
section
set_option linter.all false
namespace FM
section
variable {c : Nat}
def jnL (xs ys : List Nat) : List Nat := (plcs ys).foldl (fun L pts => pts.foldl (fun L p => merN L (L.getD (pts.getD 0 0) 0) (L.getD p 0)) L) xs
variable {A : List Nat}
end
end FM
end
section
set_option linter.all false
set_option maxRecDepth 100000
namespace FL
open PySem PySem.Spec PyProof.Rows L2 DL FM
theorem if_no {c : FT} {f g : FS} {env : Ev} (h : c env = .ret false) : sIf c f g env = g env := by
  unfold sIf
  rw [h, bret]
  rfl
theorem if_yes {c : FT} {f g : FS} {env : Ev} (h : c env = .ret true) : sIf c f g env = f env := by
  unfold sIf
  rw [h, bret]
  rfl
theorem or_no {f g : FT} {env : Ev} (h : f env = .ret false) : bOr f g env = g env := by
  unfold bOr
  rw [h, bret]
  rfl
theorem and_yes {f g : FT} {env : Ev} (h : f env = .ret true) : bAnd f g env = g env := by
  unfold bAnd
  rw [h, bret]
  rfl
theorem and_no {f g : FT} {env : Ev} (h : f env = .ret false) : bAnd f g env = .ret false := by
  unfold bAnd
  rw [h, bret]
  rfl
theorem not_b {f : FT} {env : Ev} {b : Bool} (h : f env = .ret b) : bNot f env = .ret !b := by
  unfold bNot
  rw [h, bret]
theorem compS_any {f : FE} {tgt : FG} {t : FT} {fe : FE} {vs : List Nat} {env : Ev} {d : D} {ds : List D} (h : f env = .ret d) (q : itemsOf d = some ds) : eCompS f tgt t fe vs env = endComp tgt t fe (wipeE env vs) ds := by
  unfold eCompS
  rw [h, bret, q]
structure Half (c : Nat) (xs os : List Nat) : Prop where
  len : xs.length = c
  ren : renum xs = xs
  asc : os.Pairwise (· < ·)
  lt : ∀ o ∈ os, o < cnt xs
end FL
end
section
set_option linter.all false
set_option maxRecDepth 100000
namespace FL
open PySem PySem.Spec PyProof.Rows L2 DL FM
end FL
end
section
set_option linter.all false
namespace FM
section
variable {c : Nat}
variable {xs ys : List Nat}
variable (hx : xs.length = c) (hy : ys.length = c) (rx : renum xs = xs)
include hx hy rx
end
end FM
end
section
set_option linter.all false
set_option maxRecDepth 100000
namespace FL
open PySem PySem.Spec PyProof.Rows L2 DL FM
end FL
end
section
set_option linter.all false
set_option maxRecDepth 100000
namespace FL
open PySem PySem.Spec PyProof.Rows L2 DL FM
end FL
end
section
set_option linter.all false
set_option maxRecDepth 100000
namespace FL
open PySem PySem.Spec PyProof.Rows L2 DL FM
section
variable {c n : Nat} {xs ys : List Nat} {d2 d3 d4 d5 d6 d7 d8 : Option Slot}
theorem lst4 {fa fb fc fd : FE} {env : Ev} {x y z u : D} (ha : fa env = .ret x) (hb : fb env = .ret y) (hc : fc env = .ret z) (hd : fd env = .ret u) : eLst (lCons fa (lCons fb (lCons fc (lCons fd lNil)))) env = .ret (.list [x, y, z, u]) := by
  have e : lCons fa (lCons fb (lCons fc (lCons fd lNil))) env = .ret [x, y, z, u] := by
    unfold lCons lNil
    rw [ha, bret, hb, bret, hc, bret, hd, bret]
    rfl
  unfold eLst
  rw [e, bret]
  rfl
end
section
variable {S : D} {c : Nat} {A : List Nat} {d2 d3 d4 d5 d6 d7 d8 : Option Slot}
end
end FL
end
section
set_option linter.all false
set_option maxRecDepth 100000
namespace FL
open FM
section
variable {c f T : Nat} {A X Y : List Nat}
/-- the same halves -/
structure SameH (F G : Fg c) : Prop where
  tt : ∀ x y, F (false, x) = F (false, y) ↔ G (false, x) = G (false, y)
  bb : ∀ x y, F (true, x) = F (true, y) ↔ G (true, x) = G (true, y)
  to : ∀ x, (∃ y, F (false, x) = F (true, y)) ↔ ∃ y, G (false, x) = G (true, y)
  bo : ∀ y, (∃ x, F (true, y) = F (false, x)) ↔ ∃ x, G (true, y) = G (false, x)
variable {E G W : List Nat}
end
end FL
end
section
set_option linter.all false
set_option maxRecDepth 100000
namespace FL
open FM
section
variable {c f T : Nat} {A : List Nat}
/-- the stay: the power with this number, f at least, whose number the turn divides -/
structure Stay (c : Nat) (A : List Nat) (f T n : Nat) : Prop where
  pos : 1 ≤ n
  far : f ≤ n
  dvd : n % (T - f) = 0
variable {n : Nat}
variable (hA : Val c A) (t : Turn c A f T) (S : Stay c A f T n)
include hA t S
omit hA S in
end
end FL
end
section
set_option linter.all false
set_option maxRecDepth 100000
namespace FL
open FM DL
section
variable {c : Nat} {E : List Nat}
end
end FL
end
section
set_option linter.all false
set_option maxRecDepth 100000
namespace FL
open PySem PySem.Spec PyProof.Rows L2 DL
end FL
end
section
set_option linter.all false
set_option maxRecDepth 100000
namespace FL
open PySem PySem.Spec PyProof.Rows L2 DL FM
section
variable {c f T n : Nat} {A : List Nat}
end
end FL
end
section
set_option linter.all false
set_option maxRecDepth 100000
namespace FL
open PySem PySem.Spec PyProof.Rows L2 DL FM
section
variable {c f T : Nat} {A : List Nat}
end
end FL
end
section
set_option linter.all false
set_option maxRecDepth 100000
namespace FL
open PySem PySem.Spec PyProof.Rows L2 DL FM
section
variable {c f T n : Nat} {A : List Nat} {d2 d3 d4 d5 d6 d7 d8 d9 d10 d11 d12 d13 d14 : Option Slot}
variable (h1 : 1 ≤ c) (h5 : c ≤ 5) (hA : Val c A) (t : Turn c A f T) (S : Stay c A f T n) (le : n ≤ T) (lo : ∀ k, 1 ≤ k → k < n → uponL c (pw c A k) (pw c A k) ≠ pw c A k)
include h1 h5 hA t in
include h1 h5 hA t S le lo in
include h1 h5 t S in
include h1 h5 in
include h1 h5 hA in
include h5 hA t S in
include h1 h5 hA t S le lo in
include h5 hA t S in
include h5 hA t S in
include h1 h5 hA t S in
include h1 h5 in
include h5 in
include h5 in
include h5 in
include h1 h5 hA t in
end
end FL
end
section
set_option linter.all false
set_option maxRecDepth 100000
namespace FL
open PySem PySem.Spec PyProof.Rows L2 DL FM
section
variable {c f T n : Nat} {A : List Nat} {d2 d3 d4 d5 d6 d7 d8 d9 d10 d11 d12 d13 d14 : Option Slot}
variable (h1 : 1 ≤ c) (h5 : c ≤ 5) (hA : Val c A) (t : Turn c A f T) (S : Stay c A f T n) (le : n ≤ T) (lo : ∀ k, 1 ≤ k → k < n → uponL c (pw c A k) (pw c A k) ≠ pw c A k)
include h1 h5 hA t in
include h1 h5 hA t S le lo in
include h1 h5 in
include h1 h5 hA t S le lo in
include t in
include h1 h5 hA t S in
include h1 h5 hA t S in
include h1 h5 hA t in
include t in
include h5 hA t S in
include h1 h5 hA t in
end
end FL
end
section
set_option linter.all false
set_option maxRecDepth 100000
namespace FL
open PySem PySem.Spec PyProof.Rows L2 DL FM
section
variable {S : D} {c : Nat} {A : List Nat} {d2 d3 d4 d5 d6 : Option Slot}
end
end FL
end
section
set_option linter.all false
set_option maxRecDepth 100000
namespace FL
open PySem PySem.Spec PyProof.Rows L2 DL FM
def m_is_between03 : List Slot → Tr D := fnF 3 .v (sRet (vAnd (eTyN false "int" (eVar 0)) (eChain dLe dLe (eVar 1) (eVar 0) (eVar 2))))
def m_need_cords03 : List Slot → Tr D := fnF 1 .v (sIf (bNot (tt (eCall m_is_between03 (aVal (eVar 0) (aVal (eC (.int 1)) (aVal (eC (.int 5)) aNil)))))) (fun _ => .fail) sNext)
def m_wrong_point03 : List Slot → Tr D := fnF 4 .v (sSeq (sSet 1 (eC (.int 0))) (sSeq (sForE (lCons (eVar 0) lNil) (gT 2 (gsCons (gN 2) (gsCons (gN 3) gsNil))) (sSeq (sIf (bNot (tt (eCall m_is_between03 (aVal (eVar 3) (aVal (eC (.int 0)) (aVal (eVar 1) aNil)))))) (sRet (eVar 2)) sNext) (sIf (tt (e2 dEq (eVar 3) (eVar 1))) (sSet 1 (e2 dAddA (eVar 1) (eC (.int 1)))) sNext))) (sRet (eC .none))))
def m_need_figure03 : List Slot → Tr D := fnF 3 .v (sSeq (sIf (bOr (fTyN true "tuple" (eVar 1)) (tt (e2 dNe (eCB dLenA (lCons (eVar 1) lNil)) (e2 dMul (eC (.int 2)) (eVar 0))))) (fun _ => .fail) sNext) (sSeq (sSet 2 (eCall m_wrong_point03 (aVal (eVar 1) aNil))) (sIf (tt (e2 dNotN (eVar 2) (eC .none))) (fun _ => .fail) sNext)))
def m_need_two_figures03 : List Slot → Tr D := fnF 3 .v (sSeq (sExpr (eCall m_need_cords03 (aVal (eVar 0) aNil))) (sSeq (sExpr (eCall m_need_figure03 (aVal (eVar 0) (aVal (eVar 1) aNil)))) (sExpr (eCall m_need_figure03 (aVal (eVar 0) (aVal (eVar 2) aNil))))))
def m_law_like03 : List Slot → Tr D := fnF 2 .v (sRet (e2 dEq (eCB dReprE (lCons (eVar 0) lNil)) (eCB dReprE (lCons (eVar 1) lNil))))
end FL
end
section
set_option linter.all false
set_option maxRecDepth 100000
namespace FL
open PySem PySem.Spec PyProof.Rows L2 DL FM
/-- no dict but the empty one -/
def NoScr (d : D) : Prop := ∀ es, d = .dict es → es = []
def okP (lo hi : Int) : D → Bool
  | .int i => decide (lo ≤ i) && decide (i ≤ hi)
  | _ => false
theorem v_between03 {d : D} (h : NoScr d) (a b : Int) : m_is_between03 [.val d, .val (.int a), .val (.int b)] = .ret (.bool (okP a b d)) := by
  cases d with
  | int x =>
    simp only [m_is_between03, fnF, startE, sSeq, sSet, sSetO, sRet, sExpr, sIf, sNext, sAsg, sForR, sForS, sForE, e2, eC, eVar, eVarB, eCB, eCall, aVal, aNil, lCons, lNil, eTup, eLst, eIf, eTy, fTy, eSl, oNone, oSome, eChain, vAnd, vOr, vNot, bNot, bAnd, bOr, tt, fTru, gN, gT, gsCons, gsNil, bret, ofS, Tr.ofOpt, List.map_cons, List.map_nil, List.length_cons, List.length_nil, List.cons_append, List.nil_append, List.replicate_succ, List.replicate_zero, List.getElem?_cons_zero, List.getElem?_cons_succ, List.set_cons_zero, List.set_cons_succ, Option.bind_some, Option.map_some, if_true, tyName, Nat.reduceSub, Nat.reduceAdd, List.replicate, eTyN, tyN]
    by_cases h : a ≤ x <;> simp [dInt, h, bret, ofS, Tr.ofOpt, okP]
  | dict es =>
    have := h es rfl
    subst this
    rfl
  | none => rfl
  | bool v => rfl
  | str x => rfl
  | list ds => rfl
  | tuple ds => rfl
theorem not_between {d : D} {f : FE} {env : Ev} {a b : Int} {ga gb : FE} (h : NoScr d) (hf : f env = .ret d) (ha : ga env = .ret (.int a)) (hb : gb env = .ret (.int b)) : bNot (tt (eCall m_is_between03 (aVal f (aVal ga (aVal gb aNil))))) env = .ret (!okP a b d) :=
  not_b (tt_b (call_r (aC hf (aC ha (a1 hb))) (v_between03 h a b)))
theorem NoScr.int (i : Int) : NoScr (.int i) := fun es h => nomatch h
def isN (x : D) (f : Nat) : Bool := match x with
  | .int i => decide (i = (f : Int))
  | _ => false
end FL
end
section
set_option linter.all false
set_option maxRecDepth 100000
namespace FL
open PySem PySem.Spec PyProof.Rows L2 DL FM
end FL
end
section
set_option linter.all false
set_option maxRecDepth 100000
namespace FL
open PySem PySem.Spec PyProof.Rows L2 DL FM
structure ShE (d : D) (k w : Nat) : Prop where
  o : PyData.strOk d.shown = true
  s : d.showable = true
  m : smallD d = true
  p : d.depth ≤ k
  l : d.shown.length ≤ w
end FL
end
section
set_option linter.all false
set_option maxRecDepth 100000
namespace FL
open PySem PySem.Spec PyProof.Rows L2 DL FM
theorem ok_eq {α : Type} {t u : Tr α} {n : Nat} {P : α → Prop} (e : t = u) (h : Ok u n P) : Ok t n P := by rw [e]; exact h
end FL
end
section
set_option linter.all false
set_option maxRecDepth 100000
namespace FL
open PySem PySem.Spec PyProof.Rows L2 DL FM
end FL
end
section
set_option linter.all false
namespace FM
section
variable {c : Nat}
def tp (x : P1 c) : P1 c := (!x.1, x.2)
def mp (x : P1 c) : P1 c := (x.1, Fin.rev x.2)
/-- how a map of points moves the joined figure -/
structure Mv (A B A' B' : Fg c) (e : Pt c → Pt c) (s : P1 c → P1 c) : Prop where
  hk : ∀ x y, lab (two A' B') x = lab (two A' B') y → lab (two A B) (e x) = lab (two A B) (e y)
  hp : ∀ i, T2 A B (e (0, true, i)) = T2 A B (e (1, false, i))
  ho : ∀ x, e (out x) = out (s x)
  hi : ∀ x ∈ pts2 c, e x ∈ pts2 c
  ee : ∀ x ∈ pts2 c, e (e x) = x
def tL (c : Nat) (A : List Nat) : List Nat := fgl (fun x : P1 c => fg c A (tp x))
def mL (c : Nat) (A : List Nat) : List Nat := fgl (fun x : P1 c => fg c A (mp x))
end
end FM
end
section
set_option linter.all false
set_option maxRecDepth 100000
namespace FL
open PySem PySem.Spec PyProof.Rows L2 DL FM
section
variable {c : Nat} {A B : List Nat}
end
end FL
end
section
set_option linter.all false
set_option maxRecDepth 100000
namespace FL
open PySem PySem.Spec PyProof.Rows L2 DL FM
section
variable {c : Nat} {A B X Y : List Nat}
end
end FL
end
section
set_option linter.all false
set_option maxRecDepth 100000
namespace FL
open PySem PySem.Spec PyProof.Rows L2 DL FM
section
variable {c : Nat} {A B : List Nat}
end
end FL
end
section
set_option linter.all false
set_option maxRecDepth 100000
namespace FL
open PySem PySem.Spec PyProof.Rows L2 DL FM
section
variable {S : D} {c : Nat} {A B : List Nat} {d2 d3 d4 d5 d6 : Option Slot}
end
end FL
end
section
set_option linter.all false
set_option maxRecDepth 100000
namespace FL
open PySem PySem.Spec PyProof.Rows L2 DL FM
end FL
end
section
set_option linter.all false
namespace FM
section
variable {c d : Nat} {α β γ α' β' γ' P Q R : Type}
def ia (c d : Nat) (x : P1 c) : P1 (c + d) := (x.1, Fin.castAdd d x.2)
def ib (c d : Nat) (x : P1 d) : P1 (c + d) := (x.1, Fin.natAdd c x.2)
structure Bes (W : P1 (c + d) → α) (A : P1 c → β) (B : P1 d → γ) : Prop where
  l : ∀ x y, W (ia c d x) = W (ia c d y) ↔ A x = A y
  r : ∀ x y, W (ib c d x) = W (ib c d y) ↔ B x = B y
  n : ∀ x y, W (ia c d x) ≠ W (ib c d y)
variable {W W' : Fg (c + d)} {A A' : Fg c} {B B' : Fg d}
end
section
variable {c d : Nat} {A B A' B' : List Nat}
def Ap (c : Nat) (A : List Nat) (p : Nat) : Prop := ∀ x y : P1 c, x.2.val < p → p ≤ y.2.val → fg c A x ≠ fg c A y
end
end FM
end
section
set_option linter.all false
set_option maxRecDepth 100000
namespace FL
open PySem PySem.Spec PyProof.Rows L2 DL FM
section
variable {c d : Nat} {A B : List Nat}
end
end FL
end
section
set_option linter.all false
namespace FM
section
variable {c : Nat} {A : List Nat}
/-- the ends of parts from a beginning on: ascending, apart at each but the last, which is c -/
inductive Cuts (c : Nat) (A : List Nat) : Nat → List Nat → Prop
  | last {s : Nat} : s < c → Cuts c A s [c]
  | cons {s p : Nat} {es : List Nat} : s < p → Ap c A p → Cuts c A p es → Cuts c A s (p :: es)
end
end FM
end
section
set_option linter.all false
set_option maxRecDepth 100000
namespace FL
open PySem PySem.Spec PyProof.Rows L2 DL FM
section
variable {c : Nat} {A : List Nat}
theorem sApp_n {i : Nat} {f : FE} {env : Ev} {ds : List D} {z : D} (hi : env[i]? = some (some (.own (.list ds)))) (h : f env = .ret z) (hl : ds.length < 1000) : sApp i f env = .ret (.nx (env.set i (some (.own (.list (ds ++ [z])))))) := by
  unfold sApp
  rw [hi]
  dsimp only
  rw [h, bret, if_pos (lt1000 hl)]
end
end FL
end
section
set_option linter.all false
set_option maxRecDepth 100000
namespace FL
open PySem PySem.Spec PyProof.Rows L2 DL FM
theorem forD_nx {tgt : FG} {body : FS} {d : D} {ds : List D} {env env1 env2 : Ev} (h1 : tgt d env = some env1) (h2 : body env1 = .ret (.nx env2)) : forD tgt body (d :: ds) env = forD tgt body ds env2 := by
  rw [forD, h1]
  dsimp only
  rw [h2, bret]
section
variable {c : Nat} {A : List Nat}
abbrev bPrt : FS := sSeq (sSet 6 (e2 dAddA (eSl dSlA (eVar 1) (oSome (eVar 4)) (oSome (eVar 5))) (eSl dSlA (eVar 1) (oSome (e2 dAddA (eVar 0) (eVar 4))) (oSome (e2 dAddA (eVar 0) (eVar 5)))))) (sApp 3 (eTup (lCons (eVar 4) (lCons (e2 dSub (eVar 5) (eVar 4)) (lCons (eCall m_renumbered (aVal (eVar 6) aNil)) lNil)))))
abbrev tg45 : FG := gT 2 (gsCons (gN 4) (gsCons (gN 5) gsNil))
abbrev tPar : FS := sSeq (sSetO 3 (eLst lNil)) (sSeq (sForZF (lCons (e2 dAddA (eLst (lCons (eC (.int 0)) lNil)) (eVar 2)) (lCons (e2 dAddA (eVar 2) (eLst (lCons (eVar 0) lNil))) lNil)) tg45 bPrt) (sRet (eCB dTuple (lCons (eVarB 3) lNil))))
variable {P : List Nat} {L : List D} {d3 d4 d6 d7 d8 d9 d10 d11 d12 d13 : Option Slot}
end
end FL
end
section
set_option linter.all false
set_option maxRecDepth 100000
namespace FL
open PySem PySem.Spec PyProof.Rows L2 DL FM
section
variable {c : Nat} {A : List Nat}
theorem forS_l {f : FE} {tgt : FG} {body : FS} {env : Ev} {ds : List D} (h : f env = .ret (.list ds)) : sForS f tgt body env = forD tgt body ds env := by
  unfold sForS
  rw [h]
  rfl
end
end FL
end
section
set_option linter.all false
set_option maxRecDepth 100000
namespace FL
open PySem PySem.Spec PyProof.Rows L2 DL FM
theorem ok_drawE {i : Nat} {f : FE} {env : Ev} {l : Nat} (ho : env[i]? = some (some .orc)) (hf : f env = .ret (nI l)) (h1 : 1 ≤ l) (h2 : l < 1000) : Ok (eCall m_law_draw (aOrc i (aVal f aNil)) env) 1 fun d => ∃ k, k < l ∧ d = nI k := ok_callr (aO ho (a1 hf)) (ok_draw h1 h2)
section
variable {c : Nat}
end
end FL
end
section
set_option linter.all false
set_option maxRecDepth 100000
namespace FL
open PySem PySem.Spec PyProof.Rows L2 DL FM
section
variable {c d : Nat} {A A' B B' : List Nat}
end
end FL
end
section
set_option linter.all false
set_option maxRecDepth 100000
namespace FL
open PySem PySem.Spec PyProof.Rows L2 DL FM
section
variable {c d : Nat} {A : List Nat}
end
end FL
end
section
set_option linter.all false
set_option maxRecDepth 100000
namespace FL
open PySem PySem.Spec PyProof.Rows L2 DL FM
end FL
end
section
set_option linter.all false
set_option maxRecDepth 100000
namespace FL
open PySem PySem.Spec PyProof.Rows L2 DL FM
theorem ok_ttB {f : FE} {env : Ev} {n : Nat} {b : Bool} (h : Ok (f env) n fun d => d = .bool b) : Ok (tt f env) n fun x => x = b := by
  unfold tt
  refine (Ok.bind (m := 0) h fun d e => ?_).mono (Nat.le_refl _) fun _ h => h
  subst e
  exact Ok.ret rfl
theorem ok_notT {f : FT} {env : Ev} {n : Nat} (h : Ok (f env) n fun d => d = true) : Ok (bNot f env) n fun x => x = false := by
  unfold bNot
  refine (Ok.bind (m := 0) h fun d e => ?_).mono (Nat.le_refl _) fun _ h => h
  subst e
  exact Ok.ret rfl
theorem ok_or {f g : FT} {env : Ev} {n m : Nat} (h : Ok (f env) n fun d => d = false) (k : Ok (g env) m fun d => d = false) : Ok (bOr f g env) (n + m) fun x => x = false := by
  unfold bOr
  refine Ok.bind h fun d e => ?_
  subst e
  exact k
theorem ok_ifno {t : FT} {f : FS} {env : Ev} {n : Nat} (h : Ok (t env) n fun d => d = false) : Ok (sIf t f sNext env) n fun o => ∃ e, o = .nx e ∧ e = env := by
  unfold sIf
  refine (Ok.bind (m := 0) h fun d e => ?_).mono (Nat.le_refl _) fun _ h => h
  subst e
  exact Ok.ret ⟨_, rfl, rfl⟩
section
variable {S : D} {d2 d3 : Option Slot}
end
end FL
end
section
set_option linter.all false
set_option maxRecDepth 100000
namespace FL
open PySem PySem.Spec PyProof.Rows L2 DL FM
def m_need_number04 : List Slot → Tr D := fnF 3 .v (sIf (bNot (tt (eCall m_is_between03 (aVal (eVar 0) (aVal (eVar 1) (aVal (eVar 2) aNil)))))) (fun _ => .fail) sNext)
def m_is_deed04 : List Slot → Tr D := fnF 4 .v (sSeq (sIf (bOr (fTyN true "tuple" (eVar 1)) (tt (e2 dNe (eCB dLenA (lCons (eVar 1) lNil)) (eC (.int 2))))) (sRet (eC (.bool false))) sNext) (sSeq (sAsg (eVar 1) (gT 2 (gsCons (gN 2) (gsCons (gN 3) gsNil)))) (sSeq (sIf (bOr (fTyN true "str" (eVar 2)) (tt (e2 (dIn true) (eVar 2) (eC d_WORDS)))) (sRet (eC (.bool false))) sNext) (sRet (eCall m_is_between03 (aVal (eVar 3) (aVal (eC (.int 0)) (aVal (e2 dSub (eCall m_places_for (aVal (eVar 0) (aVal (eVar 2) aNil))) (eC (.int 1))) aNil))))))))
def m_is_tuple_of_at_most04 : List Slot → Tr D := fnF 2 .v (sRet (vAnd (eTyN false "tuple" (eVar 0)) (e2 dLe (eCB dLenA (lCons (eVar 0) lNil)) (eVar 1))))
def e_need_row : List Slot → Tr RetE := fnE 4 .v (sSeqE (sIfE (bNot (tt (eCall m_is_tuple_of_at_most04 (aVal (eVar 1) (aVal (eC (.int 40)) aNil))))) (sRaise "BadRow" (eC .none)) (liftE sNext)) (sForEX (lCons (eVar 1) lNil) (gT 2 (gsCons (gN 2) (gsCons (gN 3) gsNil))) (sIfE (bNot (tt (eCall m_is_deed04 (aVal (eVar 0) (aVal (eVar 3) aNil))))) (sRaise "BadRow" (eVar 2)) (liftE sNext))))
def m_deeds_with : List Slot → Tr D := fnF 4 .v (sRet (eCB dTuple (lCons (eComp2 (srcS (eVar 1)) (gN 2) fYes (srcR (lCons (eCall m_places_for (aVal (eVar 0) (aVal (eVar 2) aNil))) lNil)) (gN 3) fYes (eTup (lCons (eVar 2) (lCons (eVar 3) lNil))) [2, 3] [3]) lNil)))
end FL
end
section
set_option linter.all false
set_option maxRecDepth 100000
namespace FL
open PySem PySem.Spec PyProof.Rows L2 DL FM
def scn (c : Nat) : List Nat × Nat → List Deed → List (List Nat × Nat)
  | s, [] => [s]
  | s, d :: ds => s :: scn c (rstep c s d) ds
def scF (c : Nat) (s : List Nat × Nat) (ds : List Deed) : List D := (scn c s ds).map fun x => fD x.1
theorem scn_len (c : Nat) : ∀ (ds : List Deed) (s : List Nat × Nat), (scn c s ds).length = ds.length + 1
  | [], _ => rfl
  | d :: ds, s => by rw [scn, List.length_cons, scn_len c ds, List.length_cons]
theorem scn_last (c : Nat) : ∀ (ds : List Deed) (s : List Nat × Nat), ∃ ys, scn c s ds = ys ++ [ds.foldl (rstep c) s]
  | [], s => ⟨[], rfl⟩
  | d :: ds, s => by
    obtain ⟨ys, e⟩ := scn_last c ds (rstep c s d)
    exact ⟨s :: ys, by rw [scn, e]; rfl⟩
section
variable {c : Nat} {ds es : List Deed}
def Ds (c : Nat) (ds : List Deed) : Prop := ∀ d ∈ ds, d ∈ deedsOf c [0, 1, 2, 3]
end
end FL
end
section
set_option linter.all false
set_option maxRecDepth 100000
namespace FL
open PySem PySem.Spec PyProof.Rows L2 DL FM
section
variable {c : Nat} {ds es : List Deed}
theorem rowS_val (ds : List Deed) : Val c (rowS c ds).1 := by
  rw [rowS_L]
  exact rowF_val (st_val c)
def flD (c : Nat) (d : Deed) : Deed := (d.1, most c d.1 - 1 - d.2)
structure Deed5 (c : Nat) (d : Deed) : Prop where
  m : mL c (dF c d) = dF c (flD c d)
  i : flD c d ∈ deedsOf c [0, 1, 2, 3]
  p : m_places_for [.val (nI c), .val (wD d.1)] = .ret (nI (most c d.1))
  l : d.2 < most c d.1
  w : d.1 < 4
end
end FL
end
section
set_option linter.all false
set_option maxRecDepth 100000
namespace FL
open PySem PySem.Spec PyProof.Rows L2 DL FM
section
variable {c : Nat} {ds es : List Deed}
end
end FL
end
section
set_option linter.all false
set_option maxRecDepth 100000
namespace FL
open PySem PySem.Spec PyProof.Rows L2 DL FM
section
variable {c : Nat} {ds es : List Deed}
end
end FL
end
section
set_option linter.all false
set_option maxRecDepth 100000
namespace FL
open PySem PySem.Spec PyProof.Rows L2 DL FM
def cuts40 : List Deed := List.replicate 40 (0, 0)
section
variable {c : Nat} {b w due far od : D}
structure C40 (c : Nat) : Prop where
  ds : Ds c cuts40
  nr : e_need_row [.val (nI c), .val (rowD cuts40)] = .ret (.v .none)
  n0 : e_need_row [.val (nI c), .val (rowD [])] = .ret (.v .none)
end
end FL
end
section
set_option linter.all false
set_option maxRecDepth 100000
namespace FL
open PySem PySem.Spec PyProof.Rows L2 DL FM
section
variable {c : Nat}
end
section
variable {S : D} {c : Nat} {ds es : List Deed} {d3 d4 d5 d6 : Option Slot}
end
end FL
end
section
set_option linter.all false
set_option maxRecDepth 100000
namespace FL
open PySem PySem.Spec PyProof.Rows L2 DL FM
end FL
end
section
set_option linter.all false
set_option maxRecDepth 100000
namespace FL
open PySem PySem.Spec PyProof.Rows L2 DL FM
/-- the next fresh mark behind a walk -/
def frs : List D → Nat → Nat
  | [], f => f
  | x :: xs, f => frs xs (if isN x f = true then f + 1 else f)
end FL
end
section
set_option linter.all false
set_option maxRecDepth 100000
namespace FL
open PySem PySem.Spec PyProof.Rows L2 DL FM
end FL
end
section
set_option linter.all false
set_option maxRecDepth 100000
namespace FL
open PySem PySem.Spec PyProof.Rows L2 DL FM
end FL
end
section
set_option linter.all false
set_option maxRecDepth 100000
namespace FL
open PySem PySem.Spec PyProof.Rows L2 DL FM
theorem lcn {f : FE} {r : FL} {env : Ev} {x : D} {xs : List D} (h : f env = .ret x) (k : r env = .ret xs) : lCons f r env = .ret (x :: xs) := by
  show (f env).bind _ = _
  rw [h, bret, k, bret]
theorem ok_asg2 {f : FE} {env : Ev} {i j n : Nat} {P : D → D → Prop} (h : Ok (f env) n fun d => ∃ x y, d = .tuple [x, y] ∧ P x y) : Ok (sAsg f (gT 2 (gsCons (gN i) (gsCons (gN j) gsNil))) env) n fun o => ∃ e, o = .nx e ∧ ∃ x y, P x y ∧ e = (env.set i (some (.val x))).set j (some (.val y)) := by
  unfold sAsg
  refine (Ok.bind (m := 0) h fun d hd => ?_).mono (Nat.le_refl _) fun _ h => h
  obtain ⟨x, y, rfl, p⟩ := hd
  exact Ok.of (a := .nx ((env.set i (some (.val x))).set j (some (.val y)))) rfl ⟨_, rfl, x, y, p, rfl⟩
theorem tup1 {f : FE} {env : Ev} {x : D} (h : f env = .ret x) : eTup (lCons f lNil) env = .ret (.tuple [x]) := by
  unfold eTup
  rw [lcn h (show lNil env = .ret [] from rfl), bret]
  exact if_pos (show 1 ≤ sizeLine by decide)
end FL
end
section
set_option linter.all false
set_option maxRecDepth 100000
namespace FL
open PySem PySem.Spec PyProof.Rows L2 DL FM
structure Mt (n : Nat) (ms : List Nat) : Prop where
  len : ms.length = n
  lt : ∀ m ∈ ms, m < n
  nd : ms.Nodup
end FL
end
section
set_option linter.all false
set_option maxRecDepth 100000
namespace FL
open PySem PySem.Spec PyProof.Rows L2 DL FM
section
variable {c : Nat} {A : List Nat}
end
end FL
end
section
set_option linter.all false
set_option maxRecDepth 100000
namespace FL
open PySem PySem.Spec PyProof.Rows L2 DL FM
section
variable {c : Nat} {b : D}
variable {a m : D}
variable {od : D}
end
end FL
end
section
set_option linter.all false
set_option maxRecDepth 100000
namespace FL
open PySem PySem.Spec PyProof.Rows L2 DL FM
theorem ok_lcons {f : FE} {r : FL} {env : Ev} {n m : Nat} {P : D → Prop} {Q : List D → Prop} (h : Ok (f env) n P) (k : Ok (r env) m Q) : Ok (lCons f r env) (n + m) fun ds => ∃ x xs, ds = x :: xs ∧ P x ∧ Q xs := by
  show Ok ((f env).bind fun d => (r env).bind fun ds => .ret (d :: ds)) _ _
  refine Ok.bind h fun x hx => (Ok.bind (m := 0) k fun xs hxs => Ok.ret ⟨x, xs, rfl, hx, hxs⟩).mono (Nat.le_refl _) fun _ h => h
section
variable {c : Nat}
end
end FL
end
section
set_option linter.all false
set_option maxRecDepth 100000
namespace FL
open PySem PySem.Spec PyProof.Rows L2 DL FM
structure Look (c : Nat) (T B : List Nat) (α β : Nat → Nat) : Prop where
  tl : T.length = c
  bl : B.length = c
  ta : renum T = T.map α
  ba : renum B = B.map β
  ai : ∀ x, x ∈ T → ∀ y, y ∈ T → α x = α y → x = y
  bi : ∀ x, x ∈ B → ∀ y, y ∈ B → β x = β y → x = y
structure Tld (T B : List Nat) (α β : Nat → Nat) (os qs ms : List Nat) : Prop where
  oa : os.Pairwise (· < ·)
  om : ∀ p, p ∈ os ↔ ∃ v, (v ∈ T ∧ v ∈ B) ∧ α v = p
  qa : qs.Pairwise (· < ·)
  qm : ∀ k, k ∈ qs ↔ ∃ v, (v ∈ T ∧ v ∈ B) ∧ β v = k
  ml : ms.length = os.length
  mm : ∀ v, v ∈ T → v ∈ B → ms.getD (os.idxOf (α v)) 0 = qs.idxOf (β v)
section
variable {c : Nat} {T B os qs ms : List Nat} {α β : Nat → Nat}
end
end FL
end
section
set_option linter.all false
set_option maxRecDepth 100000
namespace FL
open PySem PySem.Spec PyProof.Rows L2 DL FM
section
variable {c : Nat} {T B os qs ms : List Nat} {α β : Nat → Nat}
end
end FL
end
section
set_option linter.all false
set_option maxRecDepth 100000
namespace FL
open PySem PySem.Spec PyProof.Rows L2 DL FM
section
variable {c : Nat} {A : List Nat}
end
end FL
end
section
set_option linter.all false
set_option maxRecDepth 100000
namespace FL
open PySem PySem.Spec PyProof.Rows L2 DL FM
section
variable {c : Nat} {A : List Nat}
end
end FL
end
section
set_option linter.all false
set_option maxRecDepth 100000
namespace FL
open PySem PySem.Spec PyProof.Rows L2 DL FM
section
variable {c : Nat}
end
end FL
end
section
set_option linter.all false
set_option maxRecDepth 100000
namespace FL
open PySem PySem.Spec PyProof.Rows L2 DL FM
def m_put_together33 : List Slot → Tr D := fnF 12 .v (sSeq (sSet 3 (e2 dAddA (eCB dMax1 (lCons (eVar 1) lNil)) (eC (.int 1)))) (sSeq (sSet 4 (eRgL (lCons (e2 dAddA (e2 dAddA (eVar 3) (eCB dMax1 (lCons (eVar 2) lNil))) (eC (.int 1))) lNil))) (sSeq (sForR (lCons (eVar 0) lNil) (gN 5) (sSeq (sSet 9 (e2 dIx (eVar 4) (e2 dIx (eVar 1) (e2 dAddA (eVar 0) (eVar 5))))) (sSeq (sSet 10 (e2 dIx (eVar 4) (e2 dAddA (eVar 3) (e2 dIx (eVar 2) (eVar 5))))) (sIf (tt (e2 dNe (eVar 9) (eVar 10))) (sSet 4 (eCall m_merged (aVal (eVar 4) (aVal (eVar 9) (aVal (eVar 10) aNil))))) sNext)))) (sSeq (sSet 6 (eCompS (eSl dSlA (eVar 1) oNone (oSome (eVar 0))) (gN 11) fYes (e2 dIx (eVar 4) (eVar 11)) [11])) (sSeq (sSet 7 (eCompS (eSl dSlA (eVar 2) (oSome (eVar 0)) oNone) (gN 11) fYes (e2 dIx (eVar 4) (e2 dAddA (eVar 3) (eVar 11))) [11])) (sSeq (sSet 8 (e2 dAddA (eVar 6) (eVar 7))) (sRet (eTup (lCons (eCall m_renumbered (aVal (eVar 8) aNil)) (lCons (e2 dSub (eLenSetT (eVar 4)) (eLenSetT (eVar 8))) lNil))))))))))
end FL
end
section
set_option linter.all false
set_option maxRecDepth 100000
namespace FL
open PySem PySem.Spec PyProof.Rows L2 DL FM
section
variable {c : Nat}
end
end FL
end
section
set_option linter.all false
namespace FM
section
variable {c : Nat}
def lot2 (A B : Fg c) : Fin c → Nat := LT (bot A) (top B)
def opn2 (A B : Fg c) (i : Fin c) : Prop := ∃ j, lot2 A B j = lot2 A B i ∧ ((∃ k, A (true, j) = A (false, k)) ∨ ∃ k, B (false, j) = B (true, k))
instance (A B : Fg c) (i : Fin c) : Decidable (opn2 A B i) := by unfold opn2; infer_instance
variable {A B : Fg c}
end
end FM
end
section
set_option linter.all false
set_option maxRecDepth 100000
namespace FL
open PySem PySem.Spec PyProof.Rows L2 DL FM
section
variable {c : Nat} {A B : List Nat}
end
end FL
end
section
set_option linter.all false
set_option maxRecDepth 100000
namespace FL
open PySem PySem.Spec PyProof.Rows L2 DL FM
def nbr (near far : List Nat) (i j : Nat) : Bool := decide (near.getD i 0 = near.getD j 0) || decide (far.getD i 0 = far.getD j 0)
section
variable {c : Nat} {near far : List Nat} {F : List D} {left lot ends : List Nat}
structure InI (c : Nat) (near far L left : List Nat) (k first : Nat) (lot ends : List Nat) : Prop where
  nd : lot.Nodup
  sub : ∀ x ∈ lot, x ∈ left
  en : ∀ x ∈ ends, x ∈ lot
  cls : ∀ x ∈ lot, L.getD x 0 = k
  fst : first ∈ lot
  done : ∀ x ∈ lot, x ∉ ends → ∀ y ∈ left, nbr near far y x = true → y ∈ lot
end
end FL
end
section
set_option linter.all false
set_option maxRecDepth 100000
namespace FL
open PySem PySem.Spec PyProof.Rows L2 DL FM
section
variable {c : Nat} {near far : List Nat}
/-- the labels of what hangs together -/
def labsN (near far : List Nat) : List Nat := renum (jnL near far)
/-- what the outer loop keeps -/
structure OuI (c : Nat) (near far : List Nat) (k : Nat) (M : List (List Nat)) : Prop where
  len : M.length = k
  le : k ≤ cnt (labsN near far)
  cls : ∀ i (h : i < M.length), (∀ x, x ∈ M[i] ↔ x < c ∧ (labsN near far).getD x 0 = i) ∧ M[i].Nodup
end
end FL
end
section
set_option linter.all false
set_option maxRecDepth 100000
namespace FL
open PySem PySem.Spec PyProof.Rows L2 DL FM
section
variable {c : Nat} {near far : List Nat}
end
end FL
end
section
set_option linter.all false
set_option maxRecDepth 100000
namespace FL
open PySem PySem.Spec PyProof.Rows L2 DL FM
section
variable {c : Nat} {xs os ys qs : List Nat}
end
end FL
end
section
set_option linter.all false
set_option maxRecDepth 100000
namespace FL
open PySem PySem.Spec PyProof.Rows L2 DL FM
section
variable {c : Nat} {xs os ys qs : List Nat}
end
end FL
end
section
set_option linter.all false
set_option maxRecDepth 100000
namespace FL
open PySem PySem.Spec PyProof.Rows L2 DL FM
abbrev Gr := List (List Nat × Bool)
structure GrOk (G : Gr) : Prop where
  ne : ∀ S ∈ G, S.1 ≠ []
  dj : G.Pairwise fun S S' => ∀ x ∈ S.1, x ∉ S'.1
section
variable {c : Nat} {A B : List Nat}
end
end FL
end
section
set_option linter.all false
set_option maxRecDepth 100000
namespace FL
open PySem PySem.Spec PyProof.Rows L2 DL FM
section
variable {c : Nat} {A B : List Nat}
end
end FL
end
section
set_option linter.all false
set_option maxRecDepth 100000
namespace FL
open PySem PySem.Spec PyProof.Rows L2 DL FM
section
variable {c : Nat} {A B : List Nat}
end
end FL
end
section
set_option linter.all false
set_option maxRecDepth 100000
namespace FL
open PySem PySem.Spec PyProof.Rows L2 DL FM
section
variable {c : Nat} {xs os : List Nat}
end
end FL
end
section
set_option linter.all false
set_option maxRecDepth 100000
namespace FL
open PySem PySem.Spec PyProof.Rows L2 DL FM
section
variable {c : Nat} {A B : List Nat}
end
end FL
end
section
set_option linter.all false
set_option maxRecDepth 100000
namespace FL
open PySem PySem.Spec PyProof.Rows L2 DL FM
section
variable {c : Nat} {A B : List Nat}
abbrev sV (d : D) : Option Slot := some (.val d)
end
end FL
end
section
set_option linter.all false
set_option maxRecDepth 100000
namespace FL
open PySem PySem.Spec PyProof.Rows L2 DL FM
section
variable {S : D} {d3 d5 d6 : Option Slot} {c : Nat}
end
end FL
end
section
set_option linter.all false
set_option maxRecDepth 100000
namespace FL
open PySem PySem.Spec PyProof.Rows L2 DL FM
end FL
end
section
set_option linter.all false
set_option maxRecDepth 100000
namespace FL
open PySem PySem.Spec PyProof.Rows L2 DL FM
section
variable {c : Nat} {A B : List Nat}
end
end FL
end
section
set_option linter.all false
set_option maxRecDepth 100000
namespace FL
open PySem PySem.Spec PyProof.Rows L2 DL FM
section
variable {c : Nat} {xs os : List Nat}
end
end FL
end
section
set_option linter.all false
set_option maxRecDepth 100000
namespace FL
open PySem PySem.Spec PyProof.Rows L2 DL FM
section
variable {c : Nat} {xs os : List Nat}
end
end FL
end
section
set_option linter.all false
set_option maxRecDepth 100000
namespace FL
open PySem PySem.Spec PyProof.Rows L2 DL FM
section
variable {c : Nat} {A B : List Nat}
end
end FL
end
section
set_option linter.all false
set_option maxRecDepth 100000
namespace FL
open PySem PySem.Spec PyProof.Rows L2 DL FM
section
variable {c : Nat} {A B : List Nat}
end
end FL
end
section
set_option linter.all false
set_option maxRecDepth 100000
namespace FL
open PySem PySem.Spec PyProof.Rows L2 DL FM
section
variable {c : Nat} {A B : List Nat}
end
end FL
end
section
set_option linter.all false
set_option maxRecDepth 100000
namespace FL
open PySem PySem.Spec PyProof.Rows L2 DL FM
section
end
end FL
end
section
set_option linter.all false
set_option maxRecDepth 100000
namespace FL
open PySem PySem.Spec PyProof.Rows L2 DL FM
section
end
section
variable {c : Nat} {A B : List Nat}
end
end FL
end
section
set_option linter.all false
set_option maxRecDepth 100000
namespace FL
open PySem PySem.Spec PyProof.Rows L2 DL FM
section
variable {c : Nat} {A B : List Nat}
end
end FL
end
section
set_option linter.all false
set_option maxRecDepth 100000
namespace FL
open PySem PySem.Spec PyProof.Rows L2 DL FM
section
variable {c : Nat} {A B : List Nat}
end
end FL
end
section
set_option linter.all false
set_option maxRecDepth 100000
namespace FL
open PySem PySem.Spec PyProof.Rows L2 DL FM
section
variable {c : Nat} {xs ys os qs : List Nat}
end
end FL
end
section
set_option linter.all false
set_option maxRecDepth 100000
namespace FL
open PySem PySem.Spec PyProof.Rows L2 DL FM
theorem v_likeW {d e : D} {k w : Nat} (h : Sh d k w) (hk : k ≤ 30) (hw : w ≤ 100000) (he : d = e) : m_law_like [.val d, .val e] = .ret (.bool true) := by
  subst he
  have r : dRepr [d] = some (.str d.shown) := by
    exact if_pos ⟨h.s, h.h, Nat.le_trans h.p hk, Nat.le_trans (Nat.le_trans h.l hw) (by decide)⟩
  have a : eCB dRepr (lCons (eVar 0) lNil) (startE 2 [.val d, .val d]) = .ret (.str d.shown) := cb_r (lc1 (d := d) rfl) r
  have b : eCB dRepr (lCons (eVar 1) lNil) (startE 2 [.val d, .val d]) = .ret (.str d.shown) := cb_r (lc1 (d := d) rfl) r
  have q : dEq (.str d.shown) (.str d.shown) = some (.bool true) := by
    have z : SeqAt.shaped (.str d.shown) = true := by
      show (PyData.strOk d.shown && _) = true
      rw [h.o]
      rfl
    unfold dEq
    rw [if_pos ⟨z, z⟩]
    simp [PyData.eqv]
  unfold m_law_like
  exact fn_v (ret_rv (e2_r a b q))
end FL
end
section
set_option linter.all false
set_option maxRecDepth 100000
namespace FL
open PySem PySem.Spec PyProof.Rows L2 DL FM
section
variable {c : Nat} {A B : List Nat}
end
end FL
end
section
set_option linter.all false
set_option maxRecDepth 100000
namespace FL
open PySem PySem.Spec PyProof.Rows L2 DL FM
section
variable {c : Nat} {A B : List Nat}
end
end FL
end
section
set_option linter.all false
set_option maxRecDepth 100000
namespace FL
open PySem PySem.Spec PyProof.Rows L2 DL FM
section
variable {S : D} {d3 d4 d5 d6 d7 d8 d9 d10 d11 d12 d13 d14 d15 : Option Slot} {c : Nat} {A B C : List Nat}
end
end FL
end
section
set_option linter.all false
set_option maxRecDepth 100000
namespace FL
open PySem PySem.Spec PyProof.Rows L2 DL FM
def m_is_deed52 : List Slot → Tr D := fnF 4 .v (sSeq (sIf (bOr (fTy true "tuple" (eVar 1)) (tt (e2 dNe (eCB dLenA (lCons (eVar 1) lNil)) (eC (.int 2))))) (sRet (eC (.bool false))) sNext) (sSeq (sAsg (eVar 1) (gT 2 (gsCons (gN 2) (gsCons (gN 3) gsNil)))) (sSeq (sIf (bOr (fTy true "str" (eVar 2)) (tt (e2 (dIn true) (eVar 2) (eC d_WORDS)))) (sRet (eC (.bool false))) sNext) (sRet (eCall m_is_between (aVal (eVar 3) (aVal (eC (.int 0)) (aVal (e2 dSub (eCall m_places_for (aVal (eVar 0) (aVal (eVar 2) aNil))) (eC (.int 1))) aNil))))))))
def m_need_row52 : List Slot → Tr D := fnF 4 .v (sSeq (sIf (bNot (tt (eCall m_is_tuple_of_at_most (aVal (eVar 1) (aVal (eC (.int 40)) aNil))))) (fun _ => .fail) sNext) (sForE (lCons (eVar 1) lNil) (gT 2 (gsCons (gN 2) (gsCons (gN 3) gsNil))) (sIf (bNot (tt (eCall m_is_deed52 (aVal (eVar 0) (aVal (eVar 3) aNil))))) (fun _ => .fail) sNext)))
def m_need_quantity : List Slot → Tr D := fnF 1 .v (sExpr (eCall m_need_number (aVal (eVar 0) (aVal (eC (.int 1)) (aVal (eC (.int 1000000)) aNil)))))
def m_row_course52 : List Slot → Tr D := fnF 7 .v (sSeq (sSetO 2 (eLst (lCons (eCall m_straight_figure (aVal (eVar 0) aNil)) lNil))) (sSeq (sSetO 3 (eLst (lCons (eC (.int 0)) lNil))) (sSeq (sForS (eVar 1) (gN 4) (sSeq (sAsg (eCall m_put_together33 (aVal (eVar 0) (aVal (e2 dIx (eVarB 2) (eNeg (eC (.int 1)))) (aVal (eCall m_figure_of_deed (aVal (eVar 0) (aVal (eVar 4) aNil))) aNil)))) (gT 2 (gsCons (gN 5) (gsCons (gN 6) gsNil)))) (sSeq (sApp 2 (eVar 5)) (sApp 3 (e2 dAddA (e2 dIx (eVarB 3) (eNeg (eC (.int 1)))) (eVar 6)))))) (fun env => (fun env => (sRet (eTup (lCons (eVar 2) (lCons (eVar 3) lNil)))) (frz 3 env)) (frz 2 env)))))
def m_lets_all : List Slot → Tr D := fnF 2 .v (sRet (e2 dEq (e2 dLenZip (eVar 0) (eVar 1)) (e2 dAddA (eCB dMax1 (lCons (eVar 0) lNil)) (eC (.int 1)))))
def m_pairs_of_two_colours : List Slot → Tr D := fnF 5 .v (sSeq (sSet 1 (eLst (lCons (eTup lNil) lNil))) (sSeq (sForR (lCons (e2 dMul (eC (.int 2)) (eVar 0)) lNil) (gN 2) (sSet 1 (eComp2 (srcS (eVar 1)) (gN 3) fYes (srcS (eTup (lCons (eC (.int 0)) (lCons (eC (.int 1)) lNil)))) (gN 4) fYes (e2 dAddA (eVar 3) (eTup (lCons (eVar 4) lNil))) [3, 4] [4]))) (sRet (eVar 1))))
def m_first_apart : List Slot → Tr D := fnF 10 .v (sSeq (sExpr (eCall m_need_cords (aVal (eVar 0) aNil))) (sSeq (sExpr (eCall m_need_row52 (aVal (eVar 0) (aVal (eVar 1) aNil)))) (sSeq (sExpr (eCall m_need_row52 (aVal (eVar 0) (aVal (eVar 2) aNil)))) (sSeq (sExpr (eCall m_need_quantity (aVal (eVar 3) aNil))) (sSeq (sIf (tt (e2 dEq (eVar 3) (eC (.int 1)))) (sRet (eC .none)) sNext) (sSeq (sAsg (eCall m_row_course52 (aVal (eVar 0) (aVal (eVar 1) aNil))) (gT 2 (gsCons (gN 5) (gsCons (gN 6) gsNil)))) (sSeq (sAsg (eCall m_row_course52 (aVal (eVar 0) (aVal (eVar 2) aNil))) (gT 2 (gsCons (gN 7) (gsCons (gN 8) gsNil)))) (sSeq (sForS (eCall m_pairs_of_two_colours (aVal (eVar 0) aNil)) (gN 4) (sSeq (sSet 9 (eCall m_lets_all (aVal (e2 dIx (eVar 5) (eNeg (eC (.int 1)))) (aVal (eVar 4) aNil)))) (sIf (bOr (tt (e2 dNe (eVar 9) (eCall m_lets_all (aVal (e2 dIx (eVar 7) (eNeg (eC (.int 1)))) (aVal (eVar 4) aNil))))) (bAnd (fTru (eVar 9)) (tt (e2 dNe (e2 dIx (eVar 6) (eNeg (eC (.int 1)))) (e2 dIx (eVar 8) (eNeg (eC (.int 1)))))))) (sRet (eTup (lCons (eSl dSlA (eVar 4) oNone (oSome (eVar 0))) (lCons (eSl dSlA (eVar 4) (oSome (eVar 0)) oNone) lNil)))) sNext))) (sRet (eC .none))))))))))
def m_law_colourings : List Slot → Tr D := fnF 7 .v (sSeq (sSet 2 (eLst (lCons (eTup lNil) lNil))) (sSeq (sForR (lCons (eVar 0) lNil) (gN 3) (sSeq (sSet 4 (eLst lNil)) (sSeq (sForS (eVar 2) (gN 5) (sSet 4 (e2 dAddA (eVar 4) (eCompR (lCons (eVar 1) lNil) (gN 6) fYes (e2 dAddA (eVar 5) (eTup (lCons (eVar 6) lNil))) [6])))) (sSet 2 (eVar 4))))) (sRet (eVar 2))))
def m_law_lets : List Slot → Tr D := fnF 6 .v (sSeq (sSetO 3 eDNew) (sSeq (sForZF (lCons (eVar 0) (lCons (e2 dAddA (eVar 1) (eVar 2)) lNil)) (gT 2 (gsCons (gN 4) (gsCons (gN 5) gsNil))) (sSeq (sIf (bAnd (tt (eDIn false 3 (eVar 4))) (tt (e2 dNe (eDGet 3 (eVar 4)) (eVar 5)))) (sRet (eC (.bool false))) sNext) (sDPutD 3 (eVar 4) (eVar 5)))) (sRet (eC (.bool true)))))
def m_law_near_row : List Slot → Tr D := fnF 7 .v (sSeq (sPar false false 3 4 (eCall m_law_draw (aOrc 0 (aVal (e2 dAddA (eCB dLenA (lCons (eVar 2) lNil)) (eC (.int 1))) aNil))) (eCall m_law_draw (aOrc 0 (aVal (eC (.int 6)) aNil)))) (sSeq (sIf (bAnd (tt (e2 dEq (eVar 4) (eC (.int 0)))) (tt (e2 dGt (eVar 1) (eC (.int 1))))) (sSeq (sSet 5 (e2 dMulT (eTup (lCons (eTup (lCons (eC (.str "swap")) (lCons (eCall m_law_draw (aOrc 0 (aVal (e2 dSub (eVar 1) (eC (.int 1))) aNil))) lNil))) lNil)) (eC (.int 2)))) (sRet (e2 dAddA (e2 dAddA (eSl dSlA (eVar 2) oNone (oSome (eVar 3))) (eVar 5)) (eSl dSlA (eVar 2) (oSome (eVar 3)) oNone)))) sNext) (sSeq (sIf (bAnd (tt (e2 dEq (eVar 4) (eC (.int 1)))) (tt (e2 dGt (eVar 1) (eC (.int 1))))) (sSeq (sSet 6 (eTup (lCons (eCall m_law_of (aOrc 0 (aVal (eLst (lCons (eC (.str "join")) (lCons (eC (.str "hook")) lNil))) aNil))) (lCons (eCall m_law_draw (aOrc 0 (aVal (e2 dSub (eVar 1) (eC (.int 1))) aNil))) lNil)))) (sRet (e2 dAddA (e2 dAddA (eSl dSlA (eVar 2) oNone (oSome (eVar 3))) (eTup (lCons (eVar 6) (lCons (eVar 6) lNil)))) (eSl dSlA (eVar 2) (oSome (eVar 3)) oNone)))) sNext) (sSeq (sIf (bAnd (tt (e2 dEq (eVar 4) (eC (.int 2)))) (tt (e2 dLt (eVar 3) (eCB dLenA (lCons (eVar 2) lNil))))) (sRet (e2 dAddA (eSl dSlA (eVar 2) oNone (oSome (eVar 3))) (eSl dSlA (eVar 2) (oSome (e2 dAddA (eVar 3) (eC (.int 1)))) oNone))) sNext) (sSeq (sIf (bAnd (tt (e2 dEq (eVar 4) (eC (.int 3)))) (tt (e2 dLt (e2 dAddA (eVar 3) (eC (.int 1))) (eCB dLenA (lCons (eVar 2) lNil))))) (sRet (e2 dAddA (e2 dAddA (eSl dSlA (eVar 2) oNone (oSome (eVar 3))) (eTup (lCons (e2 dIx (eVar 2) (e2 dAddA (eVar 3) (eC (.int 1)))) (lCons (e2 dIx (eVar 2) (eVar 3)) lNil)))) (eSl dSlA (eVar 2) (oSome (e2 dAddA (eVar 3) (eC (.int 2)))) oNone))) sNext) (sRet (eIf (tt (e2 dEq (eVar 4) (eC (.int 4)))) (eVar 2) (eCall m_law_row (aOrc 0 (aVal (eVar 1) (aVal (eTup (lCons (eC (.str "cut")) (lCons (eC (.str "hook")) (lCons (eC (.str "join")) (lCons (eC (.str "swap")) lNil))))) (aVal (eC (.int 6)) aNil))))))))))))
def m_law_great_right : List Slot → Tr D := fnF 13 .v (sSeq (sPar false false 6 7 (e2 dAddA (eC (.int 4)) (eCall m_law_draw (aOrc 0 (aVal (eC (.int 2)) aNil)))) (eCall m_law_of (aOrc 0 (aVal (eLst (lCons (eC (.int 2)) (lCons (eC (.int 3)) (lCons (eC (.int 1000)) (lCons (e2 dPow (eC (.int 10)) (eC (.int 6))) lNil))))) aNil)))) (sSeq (sSet 1 (eCall m_law_row (aOrc 0 (aVal (eVar 6) (aVal (eTup (lCons (eC (.str "cut")) (lCons (eC (.str "hook")) (lCons (eC (.str "join")) (lCons (eC (.str "swap")) lNil))))) (aVal (eC (.int 10)) aNil)))))) (sSeq (sSet 2 (eCall m_law_near_row (aOrc 0 (aVal (eVar 6) (aVal (eVar 1) aNil))))) (sSeq (sPar false false 8 9 (eCall m_law_figure (aVal (eVar 6) (aVal (eVar 1) aNil))) (eCall m_law_figure (aVal (eVar 6) (aVal (eVar 2) aNil)))) (sSeq (sSet 3 (eCall m_first_apart (aVal (eVar 6) (aVal (eVar 1) (aVal (eVar 2) (aVal (eVar 7) aNil)))))) (sSeq (sIf (tt (e2 dEq (eVar 8) (eVar 9))) (sRet (e2 dIsN (eVar 3) (eC .none))) sNext) (sSeq (sIf (tt (e2 dNe (e2 dIx (eVar 8) (eC (.int 1))) (e2 dIx (eVar 9) (eC (.int 1))))) (sRet (eCall m_law_like (aVal (eVar 3) (aVal (eTup (lCons (e2 dMulT (eTup (lCons (eC (.int 0)) lNil)) (eVar 6)) (lCons (e2 dMulT (eTup (lCons (eC (.int 0)) lNil)) (eVar 6)) lNil))) aNil)))) sNext) (sSeq (sIf (bOr (bNot (tt (eIsi "tuple" (eVar 3)))) (tt (e2 dNe (eCB dLenA (lCons (eVar 3) lNil)) (eC (.int 2))))) (sRet (eC (.bool false))) sNext) (sSeq (sSet 4 (e2 dAddA (e2 dIx (eVar 3) (eC (.int 0))) (e2 dIx (eVar 3) (eC (.int 1))))) (sSeq (sIf (bOr (tt (e2 dNe (eCompS (eVar 4) (gN 12) (tt (e2 (dIn true) (eVar 12) (eTup (lCons (eC (.int 0)) (lCons (eC (.int 1)) lNil))))) (eC (.int 1)) [12]) (eLst lNil))) (tt (e2 dNe (eCB dLenA (lCons (eVar 4) lNil)) (e2 dMul (eC (.int 2)) (eVar 6))))) (sRet (eC (.bool false))) sNext) (sSeq (sForS (eCall m_law_colourings (aVal (e2 dMul (eC (.int 2)) (eVar 6)) (aVal (eC (.int 2)) aNil))) (gN 5) (sSeq (sPar false false 10 11 (eSl dSlA (eVar 5) oNone (oSome (eVar 6))) (eSl dSlA (eVar 5) (oSome (eVar 6)) oNone)) (sIf (tt (e2 dNe (eCall m_law_lets (aVal (e2 dIx (eVar 8) (eC (.int 0))) (aVal (eVar 10) (aVal (eVar 11) aNil)))) (eCall m_law_lets (aVal (e2 dIx (eVar 9) (eC (.int 0))) (aVal (eVar 10) (aVal (eVar 11) aNil)))))) (sRet (eCall m_law_like (aVal (eVar 3) (aVal (eTup (lCons (eVar 10) (lCons (eVar 11) lNil))) aNil)))) sNext))) (sRet (eC (.bool false))))))))))))))
end FL
end
section
set_option linter.all false
set_option maxRecDepth 100000
namespace FL
open FM
def lets (A w : List Nat) : Bool := decide (∀ i, i < A.length → ∀ j, j < A.length → A.getD i 0 = A.getD j 0 → w.getD i 0 = w.getD j 0)
def colS (k : Nat) : Nat → List (List Nat)
  | 0 => [[]]
  | n + 1 => (colS k n).flatMap fun l => (List.range k).map fun x => l ++ [x]
end FL
end
section
set_option linter.all false
set_option maxRecDepth 100000
namespace FL
open PySem PySem.Spec PyProof.Rows L2 DL FM
end FL
end
section
set_option linter.all false
set_option maxRecDepth 100000
namespace FL
open PySem PySem.Spec PyProof.Rows L2 DL FM
section
variable {A w : List Nat} {X Y Z : D}
structure LtI (A w : List Nat) (es : List (D × D)) (done : List Nat) : Prop where
  some : ∀ j, j ∈ done → DL.getD es (.inl (A.getD j 0 : Nat)) = .some (nI (w.getD j 0))
  none : ∀ k : Nat, (∀ j, j ∈ done → A.getD j 0 ≠ k) → DL.getD es (.inl (k : Nat)) = .none
  len : es.length ≤ done.length
  kd : tKeyed es = false
end
end FL
end
section
set_option linter.all false
set_option maxRecDepth 100000
namespace FL
open PySem PySem.Spec PyProof.Rows L2 DL FM
theorem sl5000 {n : Nat} (h : n ≤ 5000) : n ≤ sizeLine := Nat.le_trans h (by decide)
theorem cat_lD {a b : List D} (h : a.length + b.length ≤ 5000) : dAddA (.list a) (.list b) = some (.list (a ++ b)) := by
  have e : dCat (.list a) (.list b) = some (.list (a ++ b)) := by
    unfold dCat
    dsimp only
    rw [if_pos (sl5000 h)]
  unfold dAddA
  exact e
theorem nI_mulS {a b : Nat} (h : b ≤ 1000000) : dMul (nI a) (nI b) = some (nI (a * b)) := by
  unfold dMul nI
  dsimp only
  rw [if_pos (.inr ⟨by omega, by omega⟩), Int.natCast_mul]
end FL
end
section
set_option linter.all false
set_option maxRecDepth 100000
namespace FL
open PySem PySem.Spec PyProof.Rows L2 DL FM
section
variable {c : Nat} {A B : List Nat} {l m k : Nat}
end
end FL
end
section
set_option linter.all false
set_option maxRecDepth 100000
namespace FL
open PySem PySem.Spec PyProof.Rows L2 DL FM
theorem v_need_row52 {c : Nat} (h1 : 1 ≤ c) (h5 : c ≤ 5) {ds : List Deed} (hl : ds.length ≤ 40) (hd : ∀ d ∈ ds, d ∈ deedsOf c [0, 1, 2, 3]) : m_need_row52 [.val (nI c), .val (rowD ds)] = .ret .none := v_need_row h1 h5 hl hd
section
variable {c k : Nat} {ds es : List Deed}
end
end FL
end
section
set_option linter.all false
set_option maxRecDepth 100000
namespace FL
open PySem PySem.Spec PyProof.Rows L2 DL FM
theorem ok_tup {r : FL} {env : Ev} {n : Nat} {P : List D → Prop} (h : Ok (r env) n P) (k : ∀ ds, P ds → ds.length ≤ 100) : Ok (eTup r env) n fun d => ∃ ds, d = .tuple ds ∧ P ds := by
  unfold eTup
  refine (Ok.bind (m := 0) h fun ds hd => ?_).mono (Nat.le_refl _) fun _ h => h
  exact Ok.of (a := .tuple ds) (if_pos (sl1000 (by have := k ds hd; omega))) ⟨ds, rfl, hd⟩
section
variable {c : Nat} {ds es : List Deed}
theorem sl_dropR {i : Nat} {f : FE} {env : Ev} {n : Nat} (h : eVar i env = .ret (rowD ds)) (hf : f env = .ret (nI n)) : eSl dSlA (eVar i) (oSome f) oNone env = .ret (rowD (ds.drop n)) := by
  unfold eSl oNone oSome
  rw [h, hf]
  show Tr.ret (PyData.tuple (DL.cutD (ds.map dD) (some (n : Int)) none)) = _
  rw [cut_dropD, ← List.map_drop]
  rfl
end
end FL
end
section
set_option linter.all false
set_option maxRecDepth 100000
namespace FL
open PySem PySem.Spec PyProof.Rows L2 DL FM
section
variable {c k : Nat} {ds es : List Deed}
theorem sh_none : Sh .none 0 20 := ⟨by decide +kernel, by decide +kernel, by decide +kernel, by decide +kernel, by decide +kernel⟩
end
end FL
end
section
set_option linter.all false
set_option maxRecDepth 100000
namespace FL
open PySem PySem.Spec PyProof.Rows L2 DL FM
section
variable {c k : Nat} {ds es : List Deed}
end
end FL
end
section
set_option linter.all false
set_option maxRecDepth 100000
namespace FL
open PySem PySem.Spec PyProof.Rows L2 DL FM
section
variable {S : D} {d2 d3 : Option Slot}
end
end FL
end
section
set_option linter.all false
set_option maxRecDepth 100000
namespace FL
open PySem PySem.Spec PyProof.Rows L2 DL FM
end FL
end
section
set_option linter.all false
set_option maxRecDepth 100000
namespace FL
open PySem PySem.Spec PyProof.Rows L2 DL FM
section
variable {c : Nat} {A : List Nat}
end
end FL
end
section
set_option linter.all false
set_option maxRecDepth 100000
namespace FL
open PySem PySem.Spec PyProof.Rows L2 DL FM
section
variable {c : Nat} {A : List Nat}
end
end FL
end
section
set_option linter.all false
set_option maxRecDepth 100000
namespace FL
open PySem PySem.Spec PyProof.Rows L2 DL FM
section
variable {c : Nat} {A : List Nat}
end
end FL
end
section
set_option linter.all false
set_option maxRecDepth 100000
namespace FL
open PySem PySem.Spec PyProof.Rows L2 DL FM
structure Mx (c : Nat) (A : List Nat) (M : List (List Nat)) : Prop where
  ne : ∀ l ∈ M, l ≠ []
  pm : M.flatten.Perm (List.range (2 * c))
  sm : ∀ l ∈ M, ∀ p ∈ l, ∀ q ∈ l, A.getD p 0 = A.getD q 0
  df : M.Pairwise fun l k => ∀ p ∈ l, ∀ q ∈ k, A.getD p 0 ≠ A.getD q 0
section
variable {c : Nat} {A : List Nat} {M M' : List (List Nat)}
end
end FL
end
section
set_option linter.all false
set_option maxRecDepth 100000
namespace FL
open PySem PySem.Spec PyProof.Rows L2 DL FM
section
variable {c : Nat} {A : List Nat} {M : List (List Nat)}
end
end FL
end
section
set_option linter.all false
set_option maxRecDepth 100000
namespace FL
open PySem PySem.Spec PyProof.Rows L2 DL FM
section
variable {c : Nat} {A : List Nat}
end
end FL
end
section
set_option linter.all false
set_option maxRecDepth 100000
namespace FL
open PySem PySem.Spec PyProof.Rows L2 DL FM
section
variable {c : Nat} {A : List Nat}
end
end FL
end
section
set_option linter.all false
set_option maxRecDepth 100000
namespace FL
open PySem PySem.Spec PyProof.Rows L2 DL FM
section
variable {n : Int}
end
section
variable {c : Nat} {A : List Nat} {p : List Nat} {R : List (List Nat)}
end
end FL
end
section
set_option linter.all false
set_option maxRecDepth 100000
namespace FL
open PySem PySem.Spec PyProof.Rows L2 DL FM
section
variable {c : Nat} {A : List Nat} {p : List Nat} {R : List (List Nat)}
end
end FL
end
section
set_option linter.all false
set_option maxRecDepth 100000
namespace FL
open PySem PySem.Spec PyProof.Rows L2 DL FM
section
variable {c : Nat} {A : List Nat} {p : List Nat} {R : List (List Nat)}
end
end FL
end
section
set_option linter.all false
set_option maxRecDepth 100000
namespace FL
open PySem PySem.Spec PyProof.Rows L2 DL FM
section
variable {S : D} {c : Nat} {A : List Nat} {d2 d4 d5 d6 : Option Slot}
end
end FL
end
section
set_option linter.all false
set_option maxRecDepth 100000
namespace FL
open PySem PySem.Spec PyProof.Rows L2 DL FM
def d_WAYS_OF_PARTING : D := (.tuple [(.int 1), (.int 1), (.int 2), (.int 5), (.int 15), (.int 52), (.int 203), (.int 877), (.int 4140), (.int 21147), (.int 115975)])
def m_both_of : List Slot → Tr D := fnF 3 .v (sSeq (sExpr (eCall m_need_two_figures03 (aVal (eVar 0) (aVal (eVar 1) (aVal (eVar 2) aNil))))) (sRet (e2 dRenZip (eVar 1) (eVar 2))))
def m_is_finer : List Slot → Tr D := fnF 3 .v (sRet (e2 dEq (eCall m_both_of (aVal (eVar 0) (aVal (eVar 1) (aVal (eVar 2) aNil)))) (eVar 1)))
def m_finer_count : List Slot → Tr D := fnF 4 .v (sSeq (sExpr (eCall m_need_cords03 (aVal (eVar 0) aNil))) (sSeq (sExpr (eCall m_need_figure03 (aVal (eVar 0) (aVal (eVar 1) aNil)))) (sSeq (sSet 2 (eC (.int 1))) (sSeq (sForS (eCall m_points_by_piece (aVal (eVar 1) aNil)) (gN 3) (sSet 2 (e2 dMul (eVar 2) (e2 dIx (eC d_WAYS_OF_PARTING) (eCB dLenA (lCons (eVar 3) lNil)))))) (sRet (eVar 2))))))
def m_coarser_count : List Slot → Tr D := fnF 2 .v (sSeq (sExpr (eCall m_need_cords03 (aVal (eVar 0) aNil))) (sSeq (sExpr (eCall m_need_figure03 (aVal (eVar 0) (aVal (eVar 1) aNil)))) (sRet (e2 dIx (eC d_WAYS_OF_PARTING) (e2 dAddA (eCB dMax1 (lCons (eVar 1) lNil)) (eC (.int 1)))))))
def m_law_all_of_two : List Slot → Tr D := fnF 5 .v (sSeq (sSet 0 (eLst (lCons (eTup lNil) lNil))) (sSeq (sForR (lCons (eC (.int 4)) lNil) (gN 1) (sSeq (sSet 2 (eLst lNil)) (sSeq (sForS (eVar 0) (gN 3) (sSet 2 (e2 dAddA (eVar 2) (eCompR (lCons (e2 dAddA (eCB dMax1 (lCons (e2 dAddA (eVar 3) (eTup (lCons (eNeg (eC (.int 1))) lNil))) lNil)) (eC (.int 2))) lNil) (gN 4) fYes (e2 dAddA (eVar 3) (eTup (lCons (eVar 4) lNil))) [4])))) (sSet 0 (eVar 2))))) (sRet (eVar 0))))
def m_law_all_right : List Slot → Tr D := fnF 6 .v (sSeq (sSet 1 (eCall m_law_all_of_two aNil)) (sSeq (sSet 2 (eCall m_law_of (aOrc 0 (aVal (eVar 1) aNil)))) (sSeq (sSet 3 (eCB dLenA (lCons (eCompS (eVar 1) (gN 5) (tt (eCall m_is_finer (aVal (eC (.int 2)) (aVal (eVar 5) (aVal (eVar 2) aNil))))) (eVar 5) [5]) lNil))) (sSeq (sSet 4 (eCB dLenA (lCons (eCompS (eVar 1) (gN 5) (tt (eCall m_is_finer (aVal (eC (.int 2)) (aVal (eVar 2) (aVal (eVar 5) aNil))))) (eVar 5) [5]) lNil))) (sRet (eCall m_law_like03 (aVal (eLst (lCons (eCall m_finer_count (aVal (eC (.int 2)) (aVal (eVar 2) aNil))) (lCons (eCall m_coarser_count (aVal (eC (.int 2)) (aVal (eVar 2) aNil))) (lCons (eCB dLenA (lCons (eVar 1) lNil)) lNil)))) (aVal (eLst (lCons (eVar 3) (lCons (eVar 4) (lCons (eC (.int 15)) lNil)))) aNil))))))))
end FL
end
section
set_option linter.all false
set_option maxRecDepth 100000
namespace FL
open PySem PySem.Spec PyProof.Rows L2 DL FM
section
variable {c : Nat} {A B : List Nat}
end
end FL
end
section
set_option linter.all false
set_option maxRecDepth 100000
namespace FL
open PySem PySem.Spec PyProof.Rows L2 DL FM
section
variable {c : Nat} {A B : List Nat}
end
end FL
end
section
set_option linter.all false
set_option maxRecDepth 100000
namespace FL
open PySem PySem.Spec PyProof.Rows L2 DL FM
section
variable {c : Nat} {A : List Nat}
end
end FL
end
section
set_option linter.all false
set_option maxRecDepth 100000
namespace FL
open PySem PySem.Spec PyProof.Rows L2 DL FM
end FL
end
section
set_option linter.all false
set_option maxRecDepth 100000
namespace FL
open PySem PySem.Spec PyProof.Rows L2 DL FM
section
variable {n : Nat} {A B : List Nat} {lt : Nat → Nat} {mn : Nat → Nat}
def relE (A B : List Nat) (i j : Nat) : Bool := decide (A.getD i 0 = A.getD j 0) || decide (B.getD i 0 = B.getD j 0)
/-- the labels of the whole: who has one, and the first of each -/
structure Lab (n : Nat) (A B : List Nat) (lt mn : Nat → Nat) : Prop where
  rel : ∀ i j, i < n → j < n → relE A B i j = true → lt i = lt j
  to : ∀ g : Nat → Bool, (∀ i j, i < n → j < n → relE A B i j = true → g i = g j) → ∀ i j, i < n → j < n → lt i = lt j → g i = g j
  lt_ : ∀ i, i < n → mn i < n
  at_ : ∀ i, i < n → lt (mn i) = lt i
  le : ∀ i j, i < n → j < n → lt i = lt j → mn i ≤ j
  eq : ∀ i j, i < n → j < n → lt i = lt j → mn i = mn j
structure Mk6 (n : Nat) (lt : Nat → Nat) (M : List Nat) : Prop where
  len : M.length = n
  ok : ∀ i, i < n → M.getD i 0 < n ∧ lt (M.getD i 0) = lt i
end
section
variable {c : Nat} {A B : List Nat}
end
end FL
end
section
set_option linter.all false
set_option maxRecDepth 100000
namespace FL
open PySem PySem.Spec PyProof.Rows L2 DL FM
section
variable {c : Nat} {A B : List Nat}
theorem min2_n {a b : Nat} : dMin2 [nI a, nI b] = some (nI (min a b)) := by
  show some (PyData.int (if (b : Int) < (a : Int) then (b : Int) else (a : Int))) = _
  by_cases h : b < a
  · rw [if_pos (by omega), Nat.min_eq_right (by omega)]
    rfl
  · rw [if_neg (by omega), Nat.min_eq_left (by omega)]
    rfl
end
end FL
end
section
set_option linter.all false
set_option maxRecDepth 100000
namespace FL
open PySem PySem.Spec PyProof.Rows L2 DL FM
section
variable {c : Nat} {A B : List Nat}
end
end FL
end
section
set_option linter.all false
set_option maxRecDepth 100000
namespace FL
open PySem PySem.Spec PyProof.Rows L2 DL FM
section
variable {c : Nat} {A B : List Nat}
end
end FL
end
section
set_option linter.all false
set_option maxRecDepth 100000
namespace FL
open PySem PySem.Spec PyProof.Rows L2 DL FM
section
variable {c : Nat}
end
end FL
end
section
set_option linter.all false
set_option maxRecDepth 100000
namespace FL
open PySem PySem.Spec PyProof.Rows L2 DL FM
section
variable {c : Nat} {A B A' B' : List Nat}
end
end FL
end
section
set_option linter.all false
set_option maxRecDepth 100000
namespace FL
open PySem PySem.Spec PyProof.Rows L2 DL FM
end FL
end
section
set_option linter.all false
set_option maxRecDepth 100000
namespace FL
open PySem PySem.Spec PyProof.Rows L2 DL FM
end FL
end
section
set_option linter.all false
namespace FM
section
variable {c : Nat}
end
abbrev PN := Nat × Nat
def nP2 (c : Nat) (x : Pt c) : PN := (x.1, (if x.2.1 = true then c else 0) + x.2.2.val)
def lyr (A B : List Nat) (l : Nat) : List Nat := if l = 0 then A else B
def univ (c : Nat) (p : PN) : Prop := p.1 < 2 ∧ p.2 < 2 * c
/-- the points next to one -/
def adj (c : Nat) (A B : List Nat) (p : PN) : List PN :=
  (((List.range (2 * c)).filter fun s => decide ((lyr A B p.1).getD s 0 = (lyr A B p.1).getD p.2 0)).map fun s => (p.1, s)) ++ (if p.1 = 0 ∧ c ≤ p.2 then [(1, p.2 - c)] else []) ++ (if p.1 = 1 ∧ p.2 < c then [(0, p.2 + c)] else [])
/-- the class of a point -/
def T2N (c : Nat) (A B : List Nat) (x : Pt c) : Nat × Nat := T2 (fg c A) (fg c B) x
section
variable {c : Nat}
def mids (A B : Fg c) : List (Nat × Nat) := (List.finRange c).map fun i => T2 A B (1, false, i)
end
structure PF (S E l S' E' : List PN) : Prop where
  sub : ∀ q ∈ S, q ∈ S'
  all : ∀ q ∈ l, q ∈ S'
  only : ∀ q ∈ S', q ∈ S ∨ q ∈ l
  newE : ∀ q ∈ S', q ∉ S → q ∈ E'
  keepE : ∀ q ∈ E, q ∈ E'
  inE : ∀ q ∈ E', q ∈ E ∨ q ∈ S'
  len : S'.length + E.length = S.length + E'.length
  nd : S.Nodup → S'.Nodup
structure InG (c : Nat) (A B : List Nat) (x0 : Pt c) (S E : List PN) : Prop where
  nd : S.Nodup
  sub : ∀ q ∈ S, univ c q
  en : ∀ q ∈ E, q ∈ S
  cls : ∀ y : Pt c, y ∈ pts2 c → nP2 c y ∈ S → T2N c A B y = T2N c A B x0
  fst : nP2 c x0 ∈ S
  done : ∀ q ∈ S, q ∉ E → ∀ r ∈ adj c A B q, r ∈ S
end FM
end
section
set_option linter.all false
set_option maxRecDepth 100000
namespace FL
open PySem PySem.Spec PyProof.Rows L2 DL FM
def pL (p : PN) : List Nat := [p.1, p.2]
abbrev pt (p : PN) : D := fD (pL p)
theorem eif_yes {t : FT} {f g : FE} {env : Ev} (h : t env = .ret true) : eIf t f g env = f env := by
  unfold eIf
  rw [h, bret, if_pos rfl]
theorem eif_no {t : FT} {f g : FE} {env : Ev} (h : t env = .ret false) : eIf t f g env = g env := by
  unfold eIf
  rw [h, bret, if_neg (by decide)]
section
variable {c : Nat} {A B : List Nat} {p0 : PN}
end
end FL
end
section
set_option linter.all false
set_option maxRecDepth 100000
namespace FL
open PySem PySem.Spec PyProof.Rows L2 DL FM
section
variable {c : Nat} {A B : List Nat}
/-- the classes of the points that stay -/
def Uv (c : Nat) (A B : List Nat) : List (Nat × Nat) := (pts1 c).map (UP (fg c A) (fg c B))
/-- behind k places: what is done, what is left over -/
structure LfI (c : Nat) (A B : List Nat) (k n : Nat) (Dn : List PN) : Prop where
  cn : FM.cnt (Uv c A B ++ (mids (fg c A) (fg c B)).take k) = nU (fg c A) (fg c B) + n
  dn : ∀ y : Pt c, y ∈ pts2 c → (nP2 c y ∈ Dn ↔ ∃ i : Fin c, i.val < k ∧ T2N c A B y = T2N c A B (1, false, i))
  len : Dn.length ≤ k * 20
end
end FL
end
section
set_option linter.all false
set_option maxRecDepth 100000
namespace FL
open PySem PySem.Spec PyProof.Rows L2 DL FM
section
variable {c : Nat} {A B C : List Nat}
end
end FL
end
section
set_option linter.all false
set_option maxRecDepth 100000
namespace FL
open PySem PySem.Spec PyProof.Rows L2 DL FM
section
variable {c : Nat} {A B : List Nat}
end
end FL
end
section
set_option linter.all false
set_option maxRecDepth 100000
namespace FL
open PySem PySem.Spec PyProof.Rows L2 DL FM
end FL
end
section
set_option linter.all false
set_option maxRecDepth 100000
namespace FL
open PySem PySem.Spec PyProof.Rows L2 DL FM
end FL
end
section
set_option linter.all false
set_option maxRecDepth 100000
namespace FL
open FM
variable {A w d : List Nat}
/-- the colouring by the colours of the pieces, and the other way -/
def sp (A d : List Nat) : List Nat := A.map fun p => d.getD p 0
end FL
end
section
set_option linter.all false
set_option maxRecDepth 100000
namespace FL
open PySem PySem.Spec PyProof.Rows L2 DL FM
section
theorem noN (n : Nat) : NoScr (nI n) := NoScr.int _
theorem v_number51 {n a b : Nat} (h1 : a ≤ n) (h2 : n ≤ b) : m_need_number04 [.val (nI n), .val (nI a), .val (nI b)] = .ret .none := by
  have q := not_between (d := nI n) (env := startE 3 [.val (nI n), .val (nI a), .val (nI b)]) (a := (a : Int)) (b := (b : Int)) (ga := eVar 1) (gb := eVar 2) (f := eVar 0) (noN n) rfl rfl rfl
  have e : okP (a : Int) (b : Int) (nI n) = true := by
    show (decide ((a : Int) ≤ (n : Int)) && decide ((n : Int) ≤ (b : Int))) = true
    rw [decide_eq_true (show (a : Int) ≤ (n : Int) by omega), decide_eq_true (show (n : Int) ≤ (b : Int) by omega)]
    rfl
  rw [e] at q
  unfold m_need_number04
  exact expr_fn ((if_no q).trans rfl)
variable {c k : Nat} {w : List Nat}
variable {A : List Nat}
variable {near far : List Nat}
end
end FL
end
section
set_option linter.all false
set_option maxRecDepth 100000
namespace FL
open PySem PySem.Spec PyProof.Rows L2 DL FM
section
variable {c k : Nat} {A w near far d : List Nat}
end
end FL
end
section
set_option linter.all false
set_option maxRecDepth 100000
namespace FL
open PySem PySem.Spec PyProof.Rows L2 DL FM
section
variable {c k : Nat} {A w near far d : List Nat}
end
end FL
end
section
set_option linter.all false
set_option maxRecDepth 100000
namespace FL
open PySem PySem.Spec PyProof.Rows L2 DL FM
section
variable {c k : Nat} {A w near far d : List Nat}
end
end FL
end
section
set_option linter.all false
set_option maxRecDepth 100000
namespace FL
open PySem PySem.Spec PyProof.Rows L2 DL FM
section
variable {c k : Nat} {A w near far d : List Nat}
end
end FL
end
section
set_option linter.all false
set_option maxRecDepth 100000
namespace FL
open PySem PySem.Spec PyProof.Rows L2 DL FM
section
variable {c s : Nat} {A w near far d : List Nat}
end
end FL
end
section
set_option linter.all false
set_option maxRecDepth 100000
namespace FL
open PySem PySem.Spec PyProof.Rows L2 DL FM
section
variable {c s : Nat} {A w : List Nat}
end
end FL
end
section
set_option linter.all false
set_option maxRecDepth 100000
namespace FL
open PySem PySem.Spec PyProof.Rows L2 DL FM
section
variable {c s : Nat} {A w : List Nat}
end
end FL
end
section
set_option linter.all false
set_option maxRecDepth 100000
namespace FL
open PySem PySem.Spec PyProof.Rows L2 DL FM
section
variable {c s : Nat} {A : List Nat}
end
end FL
end
section
set_option linter.all false
set_option maxRecDepth 100000
namespace FL
open PySem PySem.Spec PyProof.Rows L2 DL FM
section
variable {c s : Nat} {A d : List Nat}
end
end FL
end
section
set_option linter.all false
set_option maxRecDepth 100000
namespace FL
open PySem PySem.Spec PyProof.Rows L2 DL FM
section
variable {c s : Nat} {A d : List Nat}
end
end FL
end
section
set_option linter.all false
set_option maxRecDepth 100000
namespace FL
open FM
structure Fo (P : List Nat) (ρ r : Nat → Nat) (B : Nat) : Prop where
  inb : ∀ x, x < P.length → P.getD x 0 < P.length
  rin : ∀ x, x < P.length → ρ x < P.length
  fix : ∀ x, x < P.length → P.getD (ρ x) 0 = ρ x
  step : ∀ x, x < P.length → ρ (P.getD x 0) = ρ x
  root : ∀ x, x < P.length → P.getD x 0 = x → ρ x = x
  up : ∀ x, x < P.length → P.getD x 0 ≠ x → r x < r (P.getD x 0)
  top : ∀ x, x < P.length → r x ≤ B
variable {P : List Nat} {ρ r : Nat → Nat} {B : Nat}
end FL
end
section
set_option linter.all false
set_option maxRecDepth 100000
namespace FL
open FM
variable {P : List Nat} {ρ r : Nat → Nat} {B : Nat}
end FL
end
section
set_option linter.all false
set_option maxRecDepth 100000
namespace FL
open FM
variable {c M k : Nat} {R near far v w : List Nat}
end FL
end
section
set_option linter.all false
set_option maxRecDepth 100000
namespace FL
open PySem PySem.Spec PyProof.Rows L2 DL FM
end FL
end
section
set_option linter.all false
set_option maxRecDepth 100000
namespace FL
open FM
section
variable {c : Nat}
variable {A B near far x : List Nat}
end
section
variable {c k : Nat} {A B near far : List Nat}
end
end FL
end
section
set_option linter.all false
set_option maxRecDepth 100000
namespace FL
open FM
variable {c k : Nat} {A near far w : List Nat} {As : List (List Nat)}
end FL
end
section
set_option linter.all false
set_option maxRecDepth 100000
namespace FL
open PySem PySem.Spec PyProof.Rows L2 DL FM
variable {c k : Nat} {ds : List Deed} {As : List (List Nat)}
variable {P : List Nat} {ρ r : Nat → Nat}
end FL
end
section
set_option linter.all false
set_option maxRecDepth 100000
namespace FL
open PySem PySem.Spec PyProof.Rows L2 DL FM
variable {c k M : Nat} {ds : List Deed} {As : List (List Nat)} {R near far w : List Nat}
end FL
end
section
set_option linter.all false
set_option maxRecDepth 100000
namespace FL
open PySem PySem.Spec PyProof.Rows L2 DL FM
variable {c k M : Nat} {ds : List Deed} {As : List (List Nat)} {R near far w : List Nat}
def inE (c k : Nat) (R S near far n : D) (es : List (D × D)) (fr : D) (d10 d11 d12 d13 : Option Slot) (row : D) : Ev := [sV (nI c), sV row, sV (nI k), sV near, sV far, sV n, sV S, sV R, some (.own (.dict es)), sV fr, d10, d11, d12, d13]
def lvW (c : Nat) (W : List Nat) (l : Nat) : List Nat := (W.drop (l * c)).take c
def wyD (c m : Nat) (w : List Nat) : D := .tuple ((List.range m).map fun i => fD (lvW c w i))
end FL
end
section
set_option linter.all false
set_option maxRecDepth 100000
namespace FL
open PySem PySem.Spec PyProof.Rows L2 DL FM
variable {c k : Nat} {ds : List Deed} {near far w : List Nat}
end FL
end
section
set_option linter.all false
set_option maxRecDepth 100000
namespace FL
open PySem PySem.Spec PyProof.Rows L2 DL FM
variable {c k m : Nat} {ds : List Deed} {near far w : List Nat}
def isC50 (c k : Nat) : D → Bool
  | .tuple ys => decide (ys.length = c) && ys.all (okP 0 ((k - 1 : Nat) : Int))
  | _ => false
def areW (c k m : Nat) : D → Bool
  | .tuple ys => decide (ys.length = m) && ys.all (isC50 c k)
  | _ => false
/-- no script within, two steps deep -/
def NS1 (x : D) : Prop := NoScr x ∧ ∀ ys, x = .tuple ys → ∀ y ∈ ys, NoScr y
def NS2 (x : D) : Prop := NoScr x ∧ ∀ ys, x = .tuple ys → ∀ y ∈ ys, NS1 y
end FL
end
section
set_option linter.all false
set_option maxRecDepth 100000
namespace FL
open PySem PySem.Spec PyProof.Rows L2 DL FM
variable {c k m : Nat} {ds : List Deed} {A R W near far w : List Nat}
end FL
end
section
set_option linter.all false
set_option maxRecDepth 100000
namespace FL
open PySem PySem.Spec PyProof.Rows L2 DL FM
variable {c k m : Nat} {ds : List Deed} {A R W near far w : List Nat}
end FL
end
section
set_option linter.all false
set_option maxRecDepth 100000
namespace FL
open PySem PySem.Spec PyProof.Rows L2 DL FM
variable {c k m : Nat} {ds : List Deed} {A near far w : List Nat} {As : List (List Nat)}
end FL
end
section
set_option linter.all false
set_option maxRecDepth 100000
namespace FL
open PySem PySem.Spec PyProof.Rows L2 DL FM
variable {c k m : Nat} {ds : List Deed} {A near far w : List Nat} {As : List (List Nat)}
end FL
end
section
set_option linter.all false
set_option maxRecDepth 100000
namespace FL
open PySem PySem.Spec PyProof.Rows L2 DL FM
variable {c k m : Nat} {ds : List Deed} {A near far w : List Nat} {As : List (List Nat)}
end FL
end
section
set_option linter.all false
set_option maxRecDepth 100000
namespace FL
open PySem PySem.Spec PyProof.Rows L2 DL FM
def cp (s : Str) : List Nat := s.cps.toList
def has (t s : Str) : Prop := ∃ a b, cp s = a ++ cp t ++ b
end FL
end
section
set_option linter.all false
set_option maxRecDepth 100000
namespace FL
open PySem PySem.Spec PyProof.Rows L2 DL FM
variable {c k m : Nat} {x : D}
structure BF (c k m : Nat) (due : List (List Nat)) (x : D) : Prop where
  ns : NS2 x
  few : ∀ ys, x = .tuple ys → ys.length ≤ 1000
  sh : Sh x 2 3000
  can : x.canLay0 = true
  ver : (∃ w ∈ due, x = wyD c m w ∧ memD x (due.map (wyD c m)) = true ∧ inS ("True" : String) x.shown = false) ∨ ((memD x (due.map (wyD c m)) = false ∨ (memD x (due.map (wyD c m)) = true ∧ inS ("True" : String) x.shown = true)) ∧ ∀ w ∈ due, areW c k m x = true → x ≠ wyD c m w)
end FL
end
section
set_option linter.all false
set_option maxRecDepth 100000
namespace FL
open PySem PySem.Spec PyProof.Rows L2 DL FM
variable {c k m : Nat} {x : D} {L : List (List Nat)}
end FL
end
section
set_option linter.all false
set_option maxRecDepth 100000
namespace FL
open PySem PySem.Spec PyProof.Rows L2 DL FM
variable {c k m : Nat} {x : D} {L : List (List Nat)}
end FL
end
section
set_option linter.all false
set_option maxRecDepth 100000
namespace FL
open PySem PySem.Spec PyProof.Rows L2 DL FM
variable {c k : Nat} {ds : List Deed} {near far : List Nat} {x : D}
structure Gd (c k : Nat) (ds : List Deed) (near far : List Nat) : Prop where
  h1 : 1 ≤ c
  h3 : c ≤ 3
  k1 : 1 ≤ k
  k3 : k ≤ 3
  q9 : k ^ c ≤ 9
  hl : ds.length ≤ 4
  hd : Ds c ds
  hn : near ∈ colS k c
  hf : far ∈ colS k c
end FL
end
section
set_option linter.all false
set_option maxRecDepth 100000
namespace FL
open PySem PySem.Spec PyProof.Rows L2 DL FM
variable {c k m : Nat} {ds : List Deed} {near far : List Nat} {x : D}
end FL
end
section
set_option linter.all false
set_option maxRecDepth 100000
namespace FL
open PySem PySem.Spec PyProof.Rows L2 DL FM
variable {c k m : Nat} {ds : List Deed} {near far : List Nat} {x : D}
theorem ok_cRowS {c M : Nat} (hM : M ≤ 10) {F : D} {L : List D} (h0 : L ≠ []) (hl : L.length < 1000) : Ok (cRow (rE c M F (.list L))) (M + 1) fun d => ∃ ys, d = .list ys ∧ ys.length ≤ M ∧ ∀ y ∈ ys, y ∈ L := by
  have q1 : Ok (lCons (eCall m_law_draw (aOrc 0 (aVal (e2 dAddA (eVar 3) (eC (.int 1))) aNil))) lNil (rE c M F (.list L))) 1 fun ds => ∃ d, ds = [d] ∧ ∃ i, i < M + 1 ∧ d = nI i := ok_l1 (ok_callr (aO rfl (a1 (e2_r (x := nI M) (y := nI 1) rfl rfl nI_add))) (ok_draw (l := M + 1) (by omega) (by omega)))
  unfold cRow
  refine (ok_compR (m := M) q1 ?_).mono (by omega) fun _ h => h
  rintro ds ⟨d, rfl, i, hi, rfl⟩
  refine ⟨0, i, rngOf_n (by omega), ?_⟩
  have q := end_ok (tgt := gN 5) (t := fYes) (fe := eCall m_law_of (aOrc 0 (aVal (eVar 4) aNil))) (env := wipeE (rE c M F (.list L)) [5]) (P := fun y => y ∈ L) (k := 1) (ds := rngD 0 i) (by rw [rng_n, List.length_map, List.length_range]; omega) fun d _ => ⟨(wipeE (rE c M F (.list L)) [5]).set 5 (some (.val d)), rfl, rfl, by
    show Ok (m_law_of [.orc, .val (.list L)]) 1 _
    exact ok_of h0 hl⟩
  have ll : (rngD 0 i).length = i := by rw [rng_n, List.length_map, List.length_range]
  rw [ll] at q
  refine q.mono (by omega) ?_
  rintro d ⟨ys, e, l, hy⟩
  exact ⟨ys, e, by omega, hy⟩
theorem ok_rowS {c M : Nat} (hM : M ≤ 10) (h1 : 1 ≤ c) (h5 : c ≤ 5) {ws : List Nat} (hw : ws ∈ fams) : Ok (m_law_row [.orc, .val (nI c), .val (famD ws), .val (nI M)]) (M + 1) fun d => ∃ ds, d = rowD ds ∧ ds.length ≤ M ∧ ∀ d ∈ ds, d ∈ deedsOf c [0, 1, 2, 3] := by
  obtain ⟨f1, f2, f3⟩ := fam_ok h1 h5 hw
  have e : m_law_row = fnF 6 .v (sSeq (sSet 4 (eCall m_law_deeds (aVal (eVar 1) (aVal (eVar 2) aNil)))) (sSeq (sIf (tt (e2 dEq (eVar 4) (eLst lNil))) (sRet (eTup lNil)) sNext) (sRet (eCB dTuple (lCons cRow lNil))))) := rfl
  rw [e]
  refine ok_fn ?_
  have s1 : sSet 4 (eCall m_law_deeds (aVal (eVar 1) (aVal (eVar 2) aNil))) (startE 6 [.orc, .val (nI c), .val (famD ws), .val (nI M)]) = .ret (.nx (rE c M (famD ws) (.list ((deedsOf c ws).map dD)))) := set_nx (call_r (aC (d := nI c) rfl (a1 (d := famD ws) rfl)) f1)
  rw [seq_nx s1]
  have t : tt (e2 dEq (eVar 4) (eLst lNil)) (rE c M (famD ws) (.list ((deedsOf c ws).map dD))) = .ret (deedsOf c ws).isEmpty := tt_b (e2_r (x := .list ((deedsOf c ws).map dD)) (y := .list []) rfl rfl f2)
  by_cases z : deedsOf c ws = []
  · have ze : (deedsOf c ws).isEmpty = true := by rw [z]; rfl
    rw [ze] at t
    have r : sSeq (sIf (tt (e2 dEq (eVar 4) (eLst lNil))) (sRet (eTup lNil)) sNext) (sRet (eCB dTuple (lCons cRow lNil))) (rE c M (famD ws) (.list ((deedsOf c ws).map dD))) = .ret (.rv (rowD [])) := seq_rv ((if_yes t).trans rfl)
    exact (Ok.of r ⟨rowD [], rfl, [], rfl, Nat.zero_le _, fun _ h => nomatch h⟩).mono (Nat.zero_le _) fun _ h => h
  · have : (deedsOf c ws).isEmpty = false := by simpa using z
    rw [this] at t
    rw [seq_nx ((if_no t).trans rfl)]
    refine ok_sret ?_
    refine ok_cb1 (ok_cRowS hM (c := c) (F := famD ws) (L := (deedsOf c ws).map dD) (by simpa using z) (by
      rw [List.length_map]
      have := deeds_few (c := c) h5 (fams_len ws hw)
      omega)) ?_
    rintro d ⟨ys, rfl, l, hy⟩
    obtain ⟨ds, e, hd⟩ := deeds_of hy
    refine ⟨.tuple ys, rfl, ds, by rw [e]; rfl, ?_, fun d h => f3 d (hd d h)⟩
    rw [e, List.length_map] at l
    exact l
end FL
end
section
set_option linter.all false
set_option maxRecDepth 100000
namespace FL
open PySem PySem.Spec PyProof.Rows L2 DL FM
variable {c k m : Nat} {ds : List Deed} {near far : List Nat} {x : D}
theorem ok_aOr {i : Nat} {r : FA} {env : Ev} {n : Nat} {P : List Slot → Prop} (h : env[i]? = some (some .orc)) (hr : Ok (r env) n P) : Ok (aOrc i r env) n fun ss => ∃ ss', ss = .orc :: ss' ∧ P ss' := by
  unfold aOrc
  rw [h]
  exact (Ok.bind (m := 0) hr fun ss hs => Ok.ret ⟨ss, rfl, hs⟩).mono (by omega) fun _ h => h
end FL
end
section
set_option linter.all false
set_option maxRecDepth 100000
namespace FL
open PySem PySem.Spec PyProof.Rows L2 DL FM
variable {c k m : Nat} {ds : List Deed} {near far w : List Nat} {x : D}
end FL
end
section
set_option linter.all false
set_option maxRecDepth 100000
namespace FL
open PySem PySem.Spec PyProof.Rows L2 DL FM
variable {c k m : Nat} {ds : List Deed} {near far w d : List Nat} {x : D}
structure Gq (c k : Nat) (ds : List Deed) (near far : List Nat) : Prop where
  h1 : 1 ≤ c
  h5 : c ≤ 5
  k1 : 1 ≤ k
  k2 : k ≤ 1000000
  hl : ds.length ≤ 10
  hd : Ds c ds
  hn : near ∈ colS k c
  hf : far ∈ colS k c
  lt : lets (rowS c ds).1 (near ++ far) = true
end FL
end
section
set_option linter.all false
set_option maxRecDepth 100000
namespace FL
open PySem PySem.Spec PyProof.Rows L2 DL FM
variable {c k m : Nat} {ds : List Deed} {near far w d : List Nat} {x : D}
end FL
end
section
set_option linter.all false
set_option maxRecDepth 100000
namespace FL
open PySem PySem.Spec PyProof.Rows L2 DL FM
variable {c k m : Nat} {ds : List Deed} {near far w d : List Nat} {x : D}
end FL
end
section
set_option linter.all false
set_option maxRecDepth 100000
namespace FL
open PySem PySem.Spec PyProof.Rows L2 DL FM
def m_is_ascending : List Slot → Tr D := fnF 3 .v (sRet (eCB dAll (lCons (eCompZF (lCons (eVar 0) (lCons (eSl dSlA (eVar 0) (oSome (eC (.int 1))) oNone) lNil)) (gT 2 (gsCons (gN 1) (gsCons (gN 2) gsNil))) fYes (e2 dLtK (eVar 1) (eVar 2)) [1, 2]) lNil)))
def m_is_lot : List Slot → Tr D := fnF 3 .v (sSeq (sIf (bOr (fTy true "tuple" (eVar 1)) (tt (e2 dEq (eCB dLenA (lCons (eVar 1) lNil)) (eC (.int 0))))) (sRet (eC (.bool false))) sNext) (sRet (vAnd (eCB dAll (lCons (eCompS (eVar 1) (gN 2) fYes (eCall m_is_deed52 (aVal (eVar 0) (aVal (eVar 2) aNil))) [2]) lNil)) (eCall m_is_ascending (aVal (eVar 1) aNil)))))
def m_need_gapped_told : List Slot → Tr D := fnF 4 .v (sSeq (sIf (bNot (tt (eCall m_is_tuple_of_at_most (aVal (eVar 1) (aVal (eC (.int 12)) aNil))))) (fun _ => .fail) sNext) (sForE (lCons (eVar 1) lNil) (gT 2 (gsCons (gN 2) (gsCons (gN 3) gsNil))) (sIf (bAnd (tt (e2 dNotN (eVar 3) (eC .none))) (bNot (tt (eCall m_is_lot (aVal (eVar 0) (aVal (eVar 3) aNil)))))) (fun _ => .fail) sNext)))
def m_need_with_gapped : List Slot → Tr D := fnF 2 .v (sSeq (sExpr (eCall m_need_cords (aVal (eVar 0) aNil))) (sExpr (eCall m_need_gapped_told (aVal (eVar 0) (aVal (eVar 1) aNil)))))
def m_lots_in_gapped : List Slot → Tr D := fnF 3 .v (sRet (eCompS (eVar 1) (gN 2) fYes (eIf (tt (e2 dIsN (eVar 2) (eC .none))) (eCall m_deeds_with (aVal (eVar 0) (aVal (eC d_WORDS) aNil))) (eVar 2)) [2]))
def m_fills : List Slot → Tr D := fnF 5 .v (sSeq (sIf (tt (e2 dNe (eCB dLenA (lCons (eVar 2) lNil)) (eCB dLenA (lCons (eVar 1) lNil)))) (sRet (eC (.bool false))) sNext) (sRet (eCB dAll (lCons (eCompZM (lCons (eVar 2) (lCons (eCall m_lots_in_gapped (aVal (eVar 0) (aVal (eVar 1) aNil))) lNil)) (gT 2 (gsCons (gN 3) (gsCons (gN 4) gsNil))) fYes (e2 (dInA false) (eVar 3) (eVar 4)) [3, 4]) lNil))))
def m_need_gapped : List Slot → Tr D := fnF 2 .v (sSeq (sExpr (eCall m_need_with_gapped (aVal (eVar 0) (aVal (eVar 1) aNil)))) (sRet (eVar 1)))
def m_all_deeds : List Slot → Tr D := fnF 1 .v (sSeq (sExpr (eCall m_need_cords (aVal (eVar 0) aNil))) (sRet (eCall m_deeds_with (aVal (eVar 0) (aVal (eC d_WORDS) aNil)))))
def m_does_fill : List Slot → Tr D := fnF 3 .v (sSeq (sExpr (eCall m_need_with_gapped (aVal (eVar 0) (aVal (eVar 1) aNil)))) (sSeq (sExpr (eCall m_need_row52 (aVal (eVar 0) (aVal (eVar 2) aNil)))) (sRet (eCall m_fills (aVal (eVar 0) (aVal (eVar 1) (aVal (eVar 2) aNil)))))))
def m_many_fillings : List Slot → Tr D := fnF 4 .v (sSeq (sExpr (eCall m_need_with_gapped (aVal (eVar 0) (aVal (eVar 1) aNil)))) (sSeq (sSet 2 (eC (.int 1))) (sSeq (sForS (eCall m_lots_in_gapped (aVal (eVar 0) (aVal (eVar 1) aNil))) (gN 3) (sSet 2 (e2 dMul (eVar 2) (eCB dLenA (lCons (eVar 3) lNil))))) (sRet (eVar 2)))))
def m_filling_at : List Slot → Tr D := fnF 7 .v (sSeq (sExpr (eCall m_need_number (aVal (eVar 2) (aVal (eC (.int 0)) (aVal (e2 dSub (eCall m_many_fillings (aVal (eVar 0) (aVal (eVar 1) aNil))) (eC (.int 1))) aNil))))) (sSeq (sSetO 3 (eLst lNil)) (sSeq (sSet 4 (eVar 2)) (sSeq (sForS (eRev (eCall m_lots_in_gapped (aVal (eVar 0) (aVal (eVar 1) aNil)))) (gN 5) (sSeq (sAsg (eCB dDivmod (lCons (eVar 4) (lCons (eCB dLenA (lCons (eVar 5) lNil)) lNil))) (gT 2 (gsCons (gN 4) (gsCons (gN 6) gsNil)))) (sApp 3 (e2 dIx (eVar 5) (eVar 6))))) (sRet (eCB dTuple (lCons (eRev (eVarB 3)) lNil)))))))
def m_number_of_filling : List Slot → Tr D := fnF 6 .v (sSeq (sIf (bNot (tt (eCall m_does_fill (aVal (eVar 0) (aVal (eVar 1) (aVal (eVar 2) aNil)))))) (sRet (eC .none)) sNext) (sSeq (sSet 3 (eC (.int 0))) (sSeq (sForZM (lCons (eVar 2) (lCons (eCall m_lots_in_gapped (aVal (eVar 0) (aVal (eVar 1) aNil))) lNil)) (gT 2 (gsCons (gN 4) (gsCons (gN 5) gsNil))) (sSet 3 (e2 dAddA (e2 dMul (eVar 3) (eCB dLenA (lCons (eVar 5) lNil))) (eIdxM (eVar 5) (eVar 4))))) (sRet (eVar 3)))))
def m_gapped_between : List Slot → Tr D := fnF 5 .v (sSeq (sExpr (eCall m_need_cords (aVal (eVar 0) aNil))) (sSeq (sExpr (eCall m_need_row52 (aVal (eVar 0) (aVal (eVar 1) aNil)))) (sSeq (sIf (tt (e2 dGt (eCB dLenA (lCons (eVar 1) lNil)) (eC (.int 12)))) (fun _ => .fail) sNext) (sSeq (sExpr (eCall m_need_row52 (aVal (eVar 0) (aVal (eVar 2) aNil)))) (sSeq (sIf (tt (e2 dNe (eCB dLenA (lCons (eVar 2) lNil)) (eCB dLenA (lCons (eVar 1) lNil)))) (fun _ => .fail) sNext) (sRet (eCB dTuple (lCons (eCompZF (lCons (eVar 1) (lCons (eVar 2) lNil)) (gT 2 (gsCons (gN 3) (gsCons (gN 4) gsNil))) fYes (eCB dTuple (lCons (e2 dSortS2 (eVar 3) (eVar 4)) lNil)) [3, 4]) lNil))))))))
def m_law_lots56 : List Slot → Tr D := fnF 4 .o (sSeq (sSet 2 (eCB dTuple (lCons (eCall m_law_deeds (aVal (eVar 0) (aVal (eTup (lCons (eC (.str "cut")) (lCons (eC (.str "hook")) (lCons (eC (.str "join")) (lCons (eC (.str "swap")) lNil))))) aNil))) lNil))) (sRet (eCompS (eVar 1) (gN 3) fYes (eIf (tt (e2 dIsN (eVar 3) (eC .none))) (eVar 2) (eVar 3)) [3])))
def m_law_items : List Slot → Tr D := fnF 11 .v (sSeq (sPar3 false true false 5 6 7 (eCall m_law_deeds (aVal (eVar 1) (aVal (eTup (lCons (eC (.str "cut")) (lCons (eC (.str "hook")) (lCons (eC (.str "join")) (lCons (eC (.str "swap")) lNil))))) aNil))) (eLst lNil) (eC (.int 1))) (sSeq (sForR (lCons (eCall m_law_draw (aOrc 0 (aVal (e2 dAddA (eVar 2) (eC (.int 1))) aNil))) lNil) (gN 4) (sSeq (sSet 8 (eCompR (lCons (e2 dAddA (eC (.int 1)) (eCall m_law_draw (aOrc 0 (aVal (eC (.int 4)) aNil)))) lNil) (gN 9) fYes (eCall m_law_of (aOrc 0 (aVal (eVar 5) aNil))) [9])) (sSeq (sSet 8 (eCB dSortA (lCons (eCompR (lCons (eCB dLenA (lCons (eVar 8) lNil)) lNil) (gN 10) (tt (e2 (dInA true) (e2 dIx (eVar 8) (eVar 10)) (eSl dSlA (eVar 8) oNone (oSome (eVar 10))))) (e2 dIx (eVar 8) (eVar 10)) [10]) lNil))) (sSeq (sIf (tt (e2 dEq (eCall m_law_draw (aOrc 0 (aVal (eC (.int 5)) aNil))) (eC (.int 0)))) (sSet 8 (eVar 5)) sNext) (sSeq (sIf (tt (e2 dGt (e2 dMul (eVar 7) (eCB dLenA (lCons (eVar 8) lNil))) (eVar 3))) (sSet 8 (eSl dSlA (eVar 8) oNone (oSome (eC (.int 1))))) sNext) (sSeq (sSet 7 (e2 dMul (eVar 7) (eCB dLenA (lCons (eVar 8) lNil)))) (sApp 6 (eIf (bAnd (tt (e2 dEq (eCB dLenA (lCons (eVar 8) lNil)) (eCB dLenA (lCons (eVar 5) lNil)))) (tt (e2 dEq (eCall m_law_draw (aOrc 0 (aVal (eC (.int 2)) aNil))) (eC (.int 0))))) (eC .none) (eCB dTuple (lCons (eVar 8) lNil)))))))))) (sRet (eCB dTuple (lCons (eVarB 6) lNil)))))
def m_law_paths : List Slot → Tr D := fnF 13 .v (sSeq (sSet 2 (eLst (lCons (eTup (lCons (eTup lNil) (lCons (eTup (lCons (eCall m_law_straight (aVal (eVar 0) aNil)) lNil)) (lCons (eC (.int 0)) lNil)))) lNil))) (sSeq (sForS (eCall m_law_lots56 (aVal (eVar 0) (aVal (eVar 1) aNil))) (gN 3) (sSeq (sPar false true 4 5 (eCompS (eVar 3) (gN 9) fYes (eTup (lCons (eVar 9) (lCons (eCall m_law_deed (aVal (eVar 0) (aVal (eVar 9) aNil))) lNil))) [9]) (eLst lNil)) (sSeq (sForS (eVar 2) (gT 3 (gsCons (gN 6) (gsCons (gN 7) (gsCons (gN 8) gsNil)))) (sForS (eVar 4) (gT 2 (gsCons (gN 9) (gsCons (gN 10) gsNil))) (sSeq (sAsg (eCall m_law_upon (aVal (eVar 0) (aVal (e2 dIx (eVar 7) (eNeg (eC (.int 1)))) (aVal (eVar 10) aNil)))) (gT 2 (gsCons (gN 11) (gsCons (gN 12) gsNil)))) (sApp 5 (eTup (lCons (e2 dAddA (eVar 6) (eTup (lCons (eVar 9) lNil))) (lCons (e2 dAddA (eVar 7) (eTup (lCons (eVar 11) lNil))) (lCons (e2 dAddA (eVar 8) (eVar 12)) lNil)))))))) (fun env => (sSet 2 (eVar 5)) (frz 5 env))))) (sRet (eVar 2))))
def m_law_all_right56 : List Slot → Tr D := fnF 8 .v (sSeq (sSet 3 (eCompS (eCall m_law_paths (aVal (eVar 1) (aVal (eVar 2) aNil))) (gN 7) fYes (e2 dIx (eVar 7) (eC (.int 0))) [7])) (sSeq (sIf (bNot (tt (eCall m_law_like (aVal (eCompR (lCons (eCB dLenA (lCons (eVar 3) lNil)) lNil) (gN 5) fYes (eCall m_filling_at (aVal (eVar 1) (aVal (eVar 2) (aVal (eVar 5) aNil)))) [5]) (aVal (eVar 3) aNil))))) (sRet (eC (.bool false))) sNext) (sSeq (sSetO 4 (eCompS (eVar 3) (gN 7) fYes (eCall m_number_of_filling (aVal (eVar 1) (aVal (eVar 2) (aVal (eVar 7) aNil)))) [7])) (fun env => (sSeq (sIf (bOr (bNot (tt (eCall m_law_like (aVal (eVar 4) (aVal (eRgL (lCons (eCB dLenA (lCons (eVar 3) lNil)) lNil)) aNil))))) (tt (e2 dNe (eVar 3) (eCB dSortB (lCons (eVar 3) lNil))))) (sRet (eC (.bool false))) sNext) (sSeq (sSet 5 (eCall m_law_draw (aOrc 0 (aVal (eCB dLenA (lCons (eVar 3) lNil)) aNil)))) (sSeq (sSetO 4 (eLst (lCons (eCall m_many_fillings (aVal (eVar 1) (aVal (eVar 2) aNil))) (lCons (eCall m_many_fillings (aReo 2 [1, 0] (aVal (eVar 2) (aVal (eVar 1) aNil)))) lNil)))) (sSeq (sApp 4 (eCall m_filling_at (aReo 3 [2, 1, 0] (aVal (eVar 5) (aVal (eVar 2) (aVal (eVar 1) aNil)))))) (sSeq (sApp 4 (eCall m_number_of_filling (aReo 3 [2, 1, 0] (aVal (e2 dIx (eVar 3) (eVar 5)) (aVal (eVar 2) (aVal (eVar 1) aNil)))))) (sSeq (sSetO 4 (e2 dCat (eVarB 4) (eLst (lCons (eCall m_does_fill (aVal (eVar 1) (aVal (eVar 2) (aVal (e2 dIx (eVar 3) (eVar 5)) aNil)))) (lCons (eCall m_need_gapped (aVal (eVar 1) (aVal (eVar 2) aNil))) lNil))))) (fun env => (sSeq (sIf (bNot (tt (eCall m_law_like (aVal (eVar 4) (aVal (e2 dAddA (e2 dRep (eLst (lCons (eCB dLenA (lCons (eVar 3) lNil)) lNil)) (eC (.int 2))) (eLst (lCons (e2 dIx (eVar 3) (eVar 5)) (lCons (eVar 5) (lCons (eC (.bool true)) (lCons (eVar 2) lNil)))))) aNil))))) (sRet (eC (.bool false))) sNext) (sSeq (sSet 6 (eCall m_law_row (aOrc 0 (aVal (eVar 1) (aVal (eTup (lCons (eC (.str "cut")) (lCons (eC (.str "hook")) (lCons (eC (.str "join")) (lCons (eC (.str "swap")) lNil))))) (aVal (e2 dAddA (eCB dLenA (lCons (eVar 2) lNil)) (eC (.int 1))) aNil)))))) (sSeq (sSetO 4 (eLst (lCons (eCall m_does_fill (aReo 3 [2, 1, 0] (aVal (eVar 6) (aVal (eVar 2) (aVal (eVar 1) aNil))))) (lCons (eCall m_number_of_filling (aVal (eVar 1) (aVal (eVar 2) (aVal (eVar 6) aNil)))) lNil)))) (fun env => (sRet (eCall m_law_like (aVal (eVar 4) (aVal (eLst (lCons (e2 (dInA false) (eVar 6) (eVar 3)) (lCons (eIf (tt (e2 (dInA false) (eVar 6) (eVar 3))) (eIdxA (eVar 3) (eVar 6)) (eC .none)) lNil))) aNil)))) (frz 4 env))))) (frz 4 env)))))))) (frz 4 env)))))
def m_law_great_right56 : List Slot → Tr D := fnF 13 .v (sSeq (sSet 2 (eLst (lCons (eC .none) (lCons (eC .none) (lCons (eTup (lCons (eTup (lCons (eC (.str "cut")) (lCons (eC (.int 0)) lNil))) lNil)) (lCons (eC .none) (lCons (eTup (lCons (eTup (lCons (eC (.str "cut")) (lCons (e2 dSub (eVar 1) (eC (.int 1))) lNil))) lNil)) lNil))))))) (sSeq (sSet 3 (eCB dTuple (lCons (eCompR (lCons (eC (.int 12)) lNil) (gN 12) fYes (eCall m_law_of (aOrc 0 (aVal (eVar 2) aNil))) [12]) lNil))) (sSeq (sPar false false 7 8 (eCall m_law_lots56 (aVal (eVar 1) (aVal (eVar 3) aNil))) (eC (.int 1))) (sSeq (sForS (eVar 7) (gN 4) (sSet 8 (e2 dMul (eVar 8) (eCB dLenA (lCons (eVar 4) lNil))))) (sSeq (sSet 5 (eCompS (eVar 7) (gN 4) fYes (eCall m_law_draw (aOrc 0 (aVal (eCB dLenA (lCons (eVar 4) lNil)) aNil))) [4])) (sSeq (sPar false false 9 10 (eCB dTuple (lCons (eCompZF (lCons (eVar 7) (lCons (eVar 5) lNil)) (gT 2 (gsCons (gN 4) (gsCons (gN 11) gsNil))) fYes (e2 dIx (eVar 4) (eVar 11)) [4, 11]) lNil)) (eC (.int 0))) (sSeq (sForZF (lCons (eVar 7) (lCons (eVar 5) lNil)) (gT 2 (gsCons (gN 4) (gsCons (gN 11) gsNil))) (sSet 10 (e2 dAddA (e2 dMul (eVar 10) (eCB dLenA (lCons (eVar 4) lNil))) (eVar 11)))) (sSeq (sSetO 6 (eLst (lCons (eCall m_many_fillings (aVal (eVar 1) (aVal (eVar 3) aNil))) (lCons (eCall m_number_of_filling (aVal (eVar 1) (aVal (eVar 3) (aVal (eVar 9) aNil)))) lNil)))) (sSeq (sApp 6 (eCall m_filling_at (aVal (eVar 1) (aVal (eVar 3) (aVal (eVar 10) aNil))))) (fun env => (sRet (eCall m_law_like (aVal (eVar 6) (aVal (eLst (lCons (eVar 8) (lCons (eVar 10) (lCons (eVar 9) lNil)))) aNil)))) (frz 6 env)))))))))))
def m_law_between_right : List Slot → Tr D := fnF 11 .v (sSeq (sSet 2 (eTup (lCons (eC (.str "cut")) (lCons (eC (.str "hook")) (lCons (eC (.str "join")) (lCons (eC (.str "swap")) lNil)))))) (sSeq (sAsg (eTup (lCons (eCall m_law_row (aOrc 0 (aVal (eVar 1) (aVal (eVar 2) (aVal (eC (.int 12)) aNil))))) (lCons (eCall m_law_deeds (aVal (eVar 1) (aVal (eVar 2) aNil))) lNil))) (gT 2 (gsCons (gN 6) (gsCons (gN 7) gsNil)))) (sSeq (sSet 3 (eCB dTuple (lCons (eCompS (eVar 6) (gN 10) fYes (eIf (tt (e2 dEq (eCall m_law_draw (aOrc 0 (aVal (eC (.int 2)) aNil))) (eC (.int 0)))) (eVar 10) (eCall m_law_of (aOrc 0 (aVal (eVar 7) aNil)))) [10]) lNil))) (sSeq (sSetO 4 (eLst lNil)) (sSeq (sForZF (lCons (eVar 6) (lCons (eVar 3) lNil)) (gT 2 (gsCons (gN 8) (gsCons (gN 9) gsNil))) (sApp 4 (eIf (tt (e2 dEq (eVar 8) (eVar 9))) (eTup (lCons (eVar 8) lNil)) (eTup (lCons (eCB dMin2D (lCons (eVar 8) (lCons (eVar 9) lNil))) (lCons (eCB dMax2D (lCons (eVar 8) (lCons (eVar 9) lNil))) lNil)))))) (sSeq (sSet 5 (eLst (lCons (eCall m_gapped_between (aVal (eVar 1) (aVal (eVar 6) (aVal (eVar 3) aNil)))) (lCons (eCall m_gapped_between (aReo 3 [2, 1, 0] (aVal (eVar 3) (aVal (eVar 6) (aVal (eVar 1) aNil))))) lNil)))) (sRet (eCall m_law_like (aVal (eVar 5) (aVal (e2 dRep (eLst (lCons (eCB dTuple (lCons (eVarB 4) lNil)) lNil)) (eC (.int 2))) aNil))))))))))
end FL
end
section
set_option linter.all false
namespace FM
section
variable {α : Type} [DecidableEq α]
/-- the place of the first that is x; whether x is there -/
def plF (l : List α) (x : α) : Nat := l.idxOf x
def mbF (x : α) (l : List α) : Bool := decide (x ∈ l)
theorem mbF_iff {x : α} {l : List α} : mbF x l = true ↔ x ∈ l := decide_eq_true_iff
theorem plF_lt {x : α} {l : List α} (h : x ∈ l) : plF l x < l.length := List.idxOf_lt_length_of_mem h
theorem plF_get {x : α} {l : List α} (h : x ∈ l) : l[plF l x]? = some x := by
  rw [List.getElem?_eq_getElem (plF_lt h)]
  exact congrArg some (List.getElem_idxOf (plF_lt h))
def growF (acc : List (List α)) (l : List α) : List (List α) := acc.flatMap fun r => l.map fun d => r ++ [d]
def rowsF (ls : List (List α)) : List (List α) := ls.foldl growF [[]]
def manyF (ls : List (List α)) : Nat := ls.foldl (fun t l => t * l.length) 1
def numF (ls : List (List α)) (ds : List α) : Nat := (ds.zip ls).foldl (fun n p => n * p.2.length + plF p.2 p.1) 0
theorem rowsF_snoc (ls : List (List α)) (l : List α) : rowsF (ls ++ [l]) = growF (rowsF ls) l := by unfold rowsF; rw [List.foldl_append]; rfl
theorem manyF_snoc (ls : List (List α)) (l : List α) : manyF (ls ++ [l]) = manyF ls * l.length := by unfold manyF; rw [List.foldl_append]; rfl
theorem numF_snoc {ls : List (List α)} {l : List α} {ds : List α} {d : α} (h : ds.length = ls.length) : numF (ls ++ [l]) (ds ++ [d]) = numF ls ds * l.length + plF l d := by
  unfold numF
  rw [List.zip_append h, List.foldl_append]
  rfl
theorem flat_at {β γ : Type} {f : β → List γ} {m : Nat} : ∀ (L : List β) (q p : Nat) (a : β), (∀ x ∈ L, (f x).length = m) → L[q]? = some a → p < m → (L.flatMap f)[q * m + p]? = (f a)[p]?
  | [], q, p, a, _, h, _ => by cases h
  | x :: L, 0, p, a, hl, h, hp => by
    have e : x = a := Option.some.inj h
    subst e
    rw [List.flatMap_cons, Nat.zero_mul, Nat.zero_add, List.getElem?_append_left (by rw [hl x List.mem_cons_self]; exact hp)]
  | x :: L, q + 1, p, a, hl, h, hp => by
    have lx := hl x List.mem_cons_self
    rw [List.flatMap_cons, List.getElem?_append_right (by rw [lx, Nat.succ_mul]; omega), lx, show (q + 1) * m + p - m = q * m + p by rw [Nat.succ_mul]; omega]
    exact flat_at L q p a (fun y hy => hl y (List.mem_cons_of_mem _ hy)) h hp
theorem flat_len {β γ : Type} {f : β → List γ} {m : Nat} : ∀ (L : List β), (∀ x ∈ L, (f x).length = m) → (L.flatMap f).length = L.length * m
  | [], _ => by simp
  | x :: L, h => by
    rw [List.flatMap_cons, List.length_append, h x List.mem_cons_self, flat_len L fun y hy => h y (List.mem_cons_of_mem _ hy), List.length_cons, Nat.succ_mul, Nat.add_comm]
theorem snoc_ind {β : Type} {P : List β → Prop} (h0 : P []) (h : ∀ l x, P l → P (l ++ [x])) (l : List β) : P l := by
  rw [← List.reverse_reverse l]
  induction l.reverse with
  | nil => exact h0
  | cons x r ih =>
    rw [List.reverse_cons]
    exact h _ _ ih
theorem rowsF_len (ls : List (List α)) : (rowsF ls).length = manyF ls := by
  induction ls using snoc_ind with
  | h0 => rfl
  | h ls l ih =>
    rw [rowsF_snoc, manyF_snoc, growF, flat_len _ (m := l.length) fun x _ => List.length_map .., ih]
/-- whether a row fills the lots -/
def FilF (ls : List (List α)) (ds : List α) : Prop := ds.length = ls.length ∧ ∀ p ∈ ds.zip ls, p.1 ∈ p.2
theorem filF_snoc {ls : List (List α)} {l : List α} {ds : List α} {d : α} : FilF (ls ++ [l]) (ds ++ [d]) ↔ FilF ls ds ∧ d ∈ l := by
  unfold FilF
  rw [List.length_append, List.length_append, List.length_singleton, List.length_singleton]
  constructor
  · rintro ⟨h, k⟩
    have h : ds.length = ls.length := by omega
    rw [List.zip_append h] at k
    exact ⟨⟨h, fun p hp => k p (List.mem_append_left _ hp)⟩, k (d, l) (List.mem_append_right _ (by simp))⟩
  · rintro ⟨⟨h, k⟩, m⟩
    refine ⟨by omega, fun p hp => ?_⟩
    rw [List.zip_append h] at hp
    rcases List.mem_append.mp hp with z | z
    · exact k p z
    · have z : p = (d, l) := by simpa using z
      rw [z]
      exact m
theorem filF_cut {ls : List (List α)} {l : List α} {ds : List α} (h : FilF (ls ++ [l]) ds) : ∃ es d, ds = es ++ [d] := by
  have n : ds ≠ [] := fun e => by
    have := h.1
    rw [e, List.length_append] at this
    simp at this
  exact ⟨ds.dropLast, ds.getLast n, (List.dropLast_concat_getLast n).symm⟩
theorem num_lt {ls : List (List α)} {ds : List α} (h : FilF ls ds) : numF ls ds < manyF ls ∧ (rowsF ls)[numF ls ds]? = some ds := by
  induction ls using snoc_ind generalizing ds with
  | h0 =>
    have e : ds = [] := List.length_eq_zero_iff.mp h.1
    subst e
    exact ⟨Nat.one_pos, rfl⟩
  | h ls l ih =>
    obtain ⟨es, d, rfl⟩ := filF_cut h
    obtain ⟨g, m⟩ := filF_snoc.mp h
    obtain ⟨i1, i2⟩ := ih g
    have lt := plF_lt m
    rw [numF_snoc g.1, manyF_snoc, rowsF_snoc]
    refine ⟨?_, ?_⟩
    · calc numF ls es * l.length + plF l d < numF ls es * l.length + l.length := by omega
        _ = (numF ls es + 1) * l.length := by rw [Nat.succ_mul]
        _ ≤ manyF ls * l.length := Nat.mul_le_mul_right _ i1
    · unfold growF
      rw [flat_at (m := l.length) _ _ _ es (fun x _ => List.length_map ..) i2 lt, List.getElem?_map, plF_get m]
      rfl
theorem rows_fil {ls : List (List α)} {ds : List α} (h : ds ∈ rowsF ls) : FilF ls ds := by
  induction ls using snoc_ind generalizing ds with
  | h0 =>
    have e : ds = [] := by simpa [rowsF] using h
    subst e
    exact ⟨rfl, fun p hp => by cases hp⟩
  | h ls l ih =>
    rw [rowsF_snoc] at h
    obtain ⟨r, hr, h⟩ := List.mem_flatMap.mp h
    obtain ⟨d, hd, rfl⟩ := List.mem_map.mp h
    exact filF_snoc.mpr ⟨ih hr, hd⟩
theorem mem_rows {ls : List (List α)} {ds : List α} : ds ∈ rowsF ls ↔ FilF ls ds := ⟨rows_fil, fun h => List.mem_of_getElem? (num_lt h).2⟩
theorem rows_nodup {ls : List (List α)} (h : ∀ l ∈ ls, l.Nodup) : (rowsF ls).Nodup := by
  induction ls using snoc_ind with
  | h0 => simp [rowsF]
  | h ls l ih =>
    rw [rowsF_snoc]
    unfold growF
    have nl := h l (List.mem_append_right _ (by simp))
    have ih := ih fun x hx => h x (List.mem_append_left _ hx)
    refine List.pairwise_flatMap.mpr ⟨fun r _ => List.pairwise_map.mpr (nl.imp fun ne e => ne (by simpa using e)), ih.imp fun {a b} ne x hx y hy e => ?_⟩
    obtain ⟨d, _, rfl⟩ := List.mem_map.mp hx
    obtain ⟨d', _, rfl⟩ := List.mem_map.mp hy
    exact ne (List.append_inj_left' e rfl)
theorem num_idx {ls : List (List α)} {ds : List α} (h : FilF ls ds) (nd : ∀ l ∈ ls, l.Nodup) : plF (rowsF ls) ds = numF ls ds := by
  obtain ⟨a, b⟩ := num_lt h
  have m := mem_rows.mpr h
  refine (List.getElem?_inj (plF_lt m) (rows_nodup nd)).mp ?_
  rw [b, plF_get m]
theorem num_at {ls : List (List α)} {ds : List α} {n : Nat} (nd : ∀ l ∈ ls, l.Nodup) (h : (rowsF ls)[n]? = some ds) : numF ls ds = n := by
  have f := rows_fil (List.mem_of_getElem? h)
  obtain ⟨a, b⟩ := num_lt f
  have lt := (List.getElem?_eq_some_iff.mp h).1
  exact ((List.getElem?_inj (by rw [rowsF_len]; exact a) (rows_nodup nd)).mp (b.trans h.symm))
/-- the filling with a number, from the last lot to the first -/
def backF : List (List α) → Nat → List α → List α
  | [], _, acc => acc
  | l :: ls, n, acc => match l[n % l.length]? with
    | some d => backF ls (n / l.length) (acc ++ [d])
    | none => acc
theorem back_rows {n : Nat} {acc ds : List α} (ls : List (List α)) (h : (rowsF ls)[n]? = some ds) : backF ls.reverse n acc = acc ++ ds.reverse := by
  induction ls using snoc_ind generalizing n acc ds with
  | h0 =>
    have lt := (List.getElem?_eq_some_iff.mp h).1
    have lt : n < 1 := lt
    have e : n = 0 := by omega
    subst e
    have e : ds = [] := (Option.some.inj h).symm
    subst e
    simp [backF]
  | h ls l ih =>
    have lt := (List.getElem?_eq_some_iff.mp h).1
    rw [rowsF_len, manyF_snoc] at lt
    have pos : 0 < l.length := by
      rcases Nat.eq_zero_or_pos l.length with z | z
      · rw [z, Nat.mul_zero] at lt; omega
      · exact z
    have hq : n / l.length < manyF ls := (Nat.div_lt_iff_lt_mul pos).mpr lt
    have hp : n % l.length < l.length := Nat.mod_lt _ pos
    have hr : (rowsF ls)[n / l.length]? = some ((rowsF ls)[n / l.length]'(by rw [rowsF_len]; exact hq)) := List.getElem?_eq_getElem _
    generalize (rowsF ls)[n / l.length]'(by rw [rowsF_len]; exact hq) = r at hr
    have e := flat_at (f := fun r => l.map fun d => r ++ [d]) (m := l.length) (rowsF ls) _ _ r (fun x _ => List.length_map ..) hr hp
    rw [Nat.div_add_mod'] at e
    rw [rowsF_snoc] at h
    have e : some ds = (l.map fun d => r ++ [d])[n % l.length]? := h.symm.trans e
    rw [List.getElem?_map, List.getElem?_eq_getElem hp] at e
    have e : ds = r ++ [l[n % l.length]] := Option.some.inj e
    rw [List.reverse_append, List.reverse_singleton, List.singleton_append, backF, List.getElem?_eq_getElem hp]
    show backF ls.reverse (n / l.length) (acc ++ [l[n % l.length]]) = _
    rw [ih hr, e, List.reverse_append, List.reverse_singleton, List.append_assoc]
end
end FM
end
section
set_option linter.all false
set_option maxRecDepth 100000
namespace FL
open PySem PySem.Spec PyProof.Rows L2 DL FM ZS
def full (c : Nat) : List Deed := deedsOf c [0, 1, 2, 3]
def itD : Option (List Deed) → D
  | none => .none
  | some l => rowD l
def gapD (its : List (Option (List Deed))) : D := .tuple (its.map itD)
def lotO (c : Nat) : Option (List Deed) → List Deed
  | none => full c
  | some l => l
def lotsG (c : Nat) (its : List (Option (List Deed))) : List (List Deed) := its.map (lotO c)
def ltP (d e : Deed) : Prop := d.1 < e.1 ∨ (d.1 = e.1 ∧ d.2 < e.2)
instance (d e : Deed) : Decidable (ltP d e) := inferInstanceAs (Decidable (_ ∨ _))
theorem ltP_irr {d : Deed} (h : ltP d d) : False := by
  rcases h with h | ⟨_, h⟩ <;> exact Nat.lt_irrefl _ h
theorem ltP_trans {a b c : Deed} (h : ltP a b) (g : ltP b c) : ltP a c := by
  unfold ltP at *
  omega
theorem ltP_asym {a b : Deed} (h : ltP a b) (g : ltP b a) : False := ltP_irr (ltP_trans h g)
theorem ltP_tot {a b : Deed} (ne : a ≠ b) : ltP a b ∨ ltP b a := by
  obtain ⟨a1, a2⟩ := a
  obtain ⟨b1, b2⟩ := b
  unfold ltP
  have : ¬ (a1 = b1 ∧ a2 = b2) := fun ⟨x, y⟩ => ne (by rw [x, y])
  simp only
  omega
structure LotOk (c : Nat) (l : List Deed) : Prop where
  ne : l ≠ []
  mem : ∀ d ∈ l, d ∈ full c
  asc : l.Pairwise ltP
theorem LotOk.nodup {c : Nat} {l : List Deed} (h : LotOk c l) : l.Nodup := h.asc.imp fun {a b} q (e : a = b) => ltP_irr (by rw [e] at q; exact q)
structure GapOk (c : Nat) (its : List (Option (List Deed))) : Prop where
  len : its.length ≤ 12
  lot : ∀ l, some l ∈ its → LotOk c l
def fullB (c : Nat) : Bool := (full c).all (fun d => (full 5).contains d && isRet (m_is_deed52 [.val (nI c), .val (dD d)]) (.bool true)) && decide (full c ≠ []) && decide ((full c).Pairwise ltP) && isRet (m_deeds_with [.val (nI c), .val d_WORDS]) (rowD (full c)) && isRet (m_all_deeds [.val (nI c)]) (rowD (full c))
theorem full_all : (cords.all fullB) = true := by decide +kernel
def ltB (d e : Deed) : Bool := match dLtK (dD d) (dD e) with
  | some (.bool b) => b == decide (ltP d e)
  | _ => false
theorem lt_all : ((full 5).all fun d => (full 5).all fun e => ltB d e) = true := by decide +kernel
section
variable {c : Nat}
theorem full_ok (h1 : 1 ≤ c) (h5 : c ≤ 5) : LotOk c (full c) ∧ (∀ d ∈ full c, d ∈ full 5 ∧ m_is_deed52 [.val (nI c), .val (dD d)] = .ret (.bool true)) ∧ m_deeds_with [.val (nI c), .val d_WORDS] = .ret (rowD (full c)) ∧ m_all_deeds [.val (nI c)] = .ret (rowD (full c)) := by
  have h := List.all_eq_true.mp full_all c (in_cords h1 h5)
  unfold fullB at h
  simp only [Bool.and_eq_true, List.all_eq_true, decide_eq_true_eq] at h
  obtain ⟨⟨⟨⟨a, b⟩, d⟩, e⟩, f⟩ := h
  exact ⟨⟨b, fun _ h => h, d⟩, fun d hd => ⟨by simpa using (a d hd).1, isRet_ok (a d hd).2⟩, isRet_ok e, isRet_ok f⟩
theorem lt_deeds {d e : Deed} (hd : d ∈ full 5) (he : e ∈ full 5) : dLtK (dD d) (dD e) = some (.bool (decide (ltP d e))) := by
  have h := List.all_eq_true.mp (List.all_eq_true.mp lt_all d hd) e he
  unfold ltB at h
  split at h
  · rename_i b eq
    rw [eq, beq_iff_eq.mp h]
  · cases h
end
end FL
end
section
set_option linter.all false
set_option maxRecDepth 100000
namespace FL
open PySem PySem.Spec PyProof.Rows L2 DL FM ZS
section
variable {c : Nat} {l : List Deed} {its : List (Option (List Deed))} {ds : List Deed}
theorem zip_map {α β : Type} (f : α → D) (g : β → D) : ∀ (xs : List α) (ys : List β), zipD (xs.map f) (ys.map g) = (xs.zip ys).map fun p => .tuple [f p.1, g p.2]
  | [], _ => by cases ‹List β› <;> rfl
  | _ :: _, [] => rfl
  | x :: xs, y :: ys => by
    show PyData.tuple [f x, g y] :: zipD (xs.map f) (ys.map g) = _
    rw [zip_map f g xs ys]
    rfl
theorem bools_map {α : Type} (p : α → Bool) : ∀ xs : List α, dBools (xs.map fun x => PyData.bool (p x)) = some (xs.map p)
  | [] => rfl
  | x :: xs => by
    show (match boolOf (PyData.bool (p x)), dBools (xs.map fun x => PyData.bool (p x)) with
      | some b, some bs => some (b :: bs)
      | _, _ => none) = _
    rw [bools_map p xs]
    rfl
theorem all_map {α : Type} (p : α → Bool) (xs : List α) : dAll [.list (xs.map fun x => PyData.bool (p x))] = some (.bool (xs.all p)) := by
  show (dBools (xs.map fun x => PyData.bool (p x))).map _ = _
  rw [bools_map, Option.map_some, List.all_map]
  rfl
theorem asc_next : ∀ {l : List Deed}, l.Pairwise ltP → ∀ p ∈ l.zip (l.drop 1), ltP p.1 p.2
  | [], _, p, h => by cases h
  | [x], _, p, h => by simp at h
  | x :: y :: l, hp, p, h => by
    have h : p ∈ (x, y) :: (y :: l).zip ((y :: l).drop 1) := h
    rcases List.mem_cons.mp h with rfl | h
    · exact (List.pairwise_cons.mp hp).1 y List.mem_cons_self
    · exact asc_next (List.pairwise_cons.mp hp).2 p h
theorem full_len (h5 : c ≤ 5) : (full c).length ≤ 20 := deeds_few h5 (by decide)
theorem LotOk.few (h5 : c ≤ 5) (h : LotOk c l) : l.length ≤ 20 := Nat.le_trans (nodup_le h.nodup h.mem) (full_len h5)
theorem LotOk.pos (h : LotOk c l) : 1 ≤ l.length := List.length_pos_iff.mpr h.ne
theorem five_of (h1 : 1 ≤ c) (h5 : c ≤ 5) {d : Deed} (h : d ∈ full c) : d ∈ full 5 := ((full_ok h1 h5).2.1 d h).1
theorem small_len {n : Nat} (h : n ≤ 900) : n ≤ sizeLine := Nat.le_trans h (by decide)
theorem v_asc (h1 : 1 ≤ c) (h5 : c ≤ 5) (h : LotOk c l) : m_is_ascending [.val (rowD l)] = .ret (.bool true) := by
  let e0 : Ev := startE 3 [.val (rowD l)]
  have few := h.few h5
  have sl : eSl dSlA (eVar 0) (oSome (eC (.int 1))) oNone e0 = .ret (rowD (l.drop 1)) := sl_dropR (ds := l) (n := 1) rfl rfl
  have r : lCons (eVar 0) (lCons (eSl dSlA (eVar 0) (oSome (eC (.int 1))) oNone) lNil) e0 = .ret [rowD l, rowD (l.drop 1)] := lc2 rfl sl
  have z : zipOfF [rowD l, rowD (l.drop 1)] = some ((l.zip (l.drop 1)).map fun p => .tuple [dD p.1, dD p.2]) := by
    show some (zipD (l.map dD) ((l.drop 1).map dD)) = _
    rw [zip_map]
  have cp : eCompZF (lCons (eVar 0) (lCons (eSl dSlA (eVar 0) (oSome (eC (.int 1))) oNone) lNil)) (gT 2 (gsCons (gN 1) (gsCons (gN 2) gsNil))) fYes (e2 dLtK (eVar 1) (eVar 2)) [1, 2] e0 = .ret (.list ((l.zip (l.drop 1)).map fun p => .bool true)) := by
    unfold eCompZF
    rw [r, bret, z]
    show endComp _ _ _ _ _ = _
    unfold endComp
    rw [if_pos (by rw [List.length_map, List.length_zip]; exact small_len (by omega)), comp_all (g := fun _ => PyData.bool true) (l.zip (l.drop 1)) fun p hp => ?_]
    · rfl
    · refine ⟨[some (.val (rowD l)), sV (dD p.1), sV (dD p.2)], rfl, rfl, ?_⟩
      have m := List.of_mem_zip (show (p.1, p.2) ∈ l.zip (l.drop 1) from hp)
      have q := lt_deeds (five_of h1 h5 (h.mem _ m.1)) (five_of h1 h5 (h.mem _ (List.mem_of_mem_drop m.2)))
      rw [decide_eq_true (asc_next h.asc p hp)] at q
      exact e2_r (x := dD p.1) (y := dD p.2) rfl rfl q
  have al : dAll [.list ((l.zip (l.drop 1)).map fun p => .bool true)] = some (.bool true) := by
    rw [all_map (fun _ => true)]
    simp
  unfold m_is_ascending
  exact fn_v (ret_rv (cb_r (lc1 cp) al))
theorem v_lot (h1 : 1 ≤ c) (h5 : c ≤ 5) (h : LotOk c l) : m_is_lot [.val (nI c), .val (rowD l)] = .ret (.bool true) := by
  let e0 : Ev := startE 3 [.val (nI c), .val (rowD l)]
  have few := h.few h5
  have ln : eCB dLenA (lCons (eVar 1) lNil) e0 = .ret (nI l.length) := by
    show Tr.ret (nI (l.map dD).length) = _
    rw [List.length_map]
  have t : bOr (fTy true "tuple" (eVar 1)) (tt (e2 dEq (eCB dLenA (lCons (eVar 1) lNil)) (eC (.int 0)))) e0 = .ret false :=
    (or_no (show fTy true "tuple" (eVar 1) e0 = .ret false from rfl)).trans (tt_b (e2_r ln (y := nI 0) rfl (by rw [nI_eq, decide_eq_false (by have := h.pos; omega)])))
  have cp : eCompS (eVar 1) (gN 2) fYes (eCall m_is_deed52 (aVal (eVar 0) (aVal (eVar 2) aNil))) [2] e0 = .ret (.list (l.map fun _ => .bool true)) := by
    rw [compS_any (d := rowD l) (ds := l.map dD) rfl rfl]
    unfold endComp
    rw [if_pos (by rw [List.length_map]; exact small_len (by omega)), comp_all (g := fun _ => PyData.bool true) l fun d hd => ?_]
    · rfl
    · exact ⟨[sV (nI c), sV (rowD l), sV (dD d)], rfl, rfl, call_r (aC (d := nI c) rfl (a1 (d := dD d) rfl)) ((full_ok h1 h5).2.1 d (h.mem d hd)).2⟩
  have al : dAll [.list (l.map fun _ => .bool true)] = some (.bool true) := by
    rw [all_map (fun _ => true)]
    simp
  have a : eCB dAll (lCons (eCompS (eVar 1) (gN 2) fYes (eCall m_is_deed52 (aVal (eVar 0) (aVal (eVar 2) aNil))) [2]) lNil) e0 = .ret (.bool true) := cb_r (lc1 cp) al
  have b : eCall m_is_ascending (aVal (eVar 1) aNil) e0 = .ret (.bool true) := call_r (a1 (d := rowD l) rfl) (v_asc h1 h5 h)
  unfold m_is_lot
  refine fn_v ((seq_nx ((if_no t).trans rfl)).trans (ret_rv ?_))
  unfold vAnd
  rw [show eCB dAll (lCons (eCompS (eVar 1) (gN 2) fYes (eCall m_is_deed52 (aVal (eVar 0) (aVal (eVar 2) aNil))) [2]) lNil) (startE 3 [.val (nI c), .val (rowD l)]) = .ret (.bool true) from a, bret]
  exact b
theorem tup_most {xs : List D} {n : Nat} (h : xs.length ≤ n) : m_is_tuple_of_at_most [.val (.tuple xs), .val (nI n)] = .ret (.bool true) := by
  have q : dLe (nI xs.length) (nI n) = some (.bool true) := by
    show some (PyData.bool (decide ((xs.length : Int) ≤ (n : Int)))) = _
    rw [decide_eq_true (by omega)]
  have b : eTy false "tuple" (eVar 0) (startE 2 [.val (.tuple xs), .val (nI n)]) = .ret (.bool true) := rfl
  unfold m_is_tuple_of_at_most
  refine fn_v (d := .bool true) (ret_rv ?_)
  unfold vAnd
  rw [b, bret]
  exact e2_r (x := nI xs.length) (y := nI n) rfl rfl q
abbrev bGap : FS := sIf (bAnd (tt (e2 dNotN (eVar 3) (eC .none))) (bNot (tt (eCall m_is_lot (aVal (eVar 0) (aVal (eVar 3) aNil)))))) (fun _ => .fail) sNext
theorem gap_walk (h1 : 1 ≤ c) (h5 : c ≤ 5) {R : D} : ∀ (its : List (Option (List Deed))) (i : Nat) (d2 d3 : Option Slot), (∀ l, some l ∈ its → LotOk c l) → ∃ f2 f3, forD (gT 2 (gsCons (gN 2) (gsCons (gN 3) gsNil))) bGap (pairsFrom i (its.map itD)) [sV (nI c), sV R, d2, d3] = .ret (.nx [sV (nI c), sV R, f2, f3])
  | [], i, d2, d3, _ => ⟨d2, d3, rfl⟩
  | it :: its, i, d2, d3, h => by
    obtain ⟨f2, f3, q⟩ := gap_walk h1 h5 (R := R) its (i + 1) (sV (.int i)) (sV (itD it)) fun l hl => h l (List.mem_cons_of_mem _ hl)
    have b : bGap [sV (nI c), sV R, sV (.int i), sV (itD it)] = .ret (.nx [sV (nI c), sV R, sV (.int i), sV (itD it)]) := by
      refine (if_no ?_).trans rfl
      cases it with
      | none => exact and_no (show tt (e2 dNotN (eVar 3) (eC .none)) _ = .ret false from rfl)
      | some l => exact (and_yes (show tt (e2 dNotN (eVar 3) (eC .none)) _ = .ret true from rfl)).trans (not_b (tt_b (call_r (aC (d := nI c) rfl (a1 (d := rowD l) rfl)) (v_lot h1 h5 (h l List.mem_cons_self)))))
    exact ⟨f2, f3, (forD_nx (env1 := [sV (nI c), sV R, sV (.int i), sV (itD it)]) rfl b).trans q⟩
theorem v_gap (h1 : 1 ≤ c) (h5 : c ≤ 5) (h : GapOk c its) : m_need_with_gapped [.val (nI c), .val (gapD its)] = .ret .none := by
  have g : m_need_gapped_told [.val (nI c), .val (gapD its)] = .ret .none := by
    have a : eCall m_is_tuple_of_at_most (aVal (eVar 1) (aVal (eC (.int 12)) aNil)) (startE 4 [.val (nI c), .val (gapD its)]) = .ret (.bool true) := call_r (aC (d := gapD its) rfl (a1 (d := nI 12) rfl)) (tup_most (by rw [List.length_map]; exact h.len))
    obtain ⟨f2, f3, q⟩ := gap_walk h1 h5 (R := gapD its) its 0 none none h.lot
    have s2 : sForE (lCons (eVar 1) lNil) (gT 2 (gsCons (gN 2) (gsCons (gN 3) gsNil))) bGap (startE 4 [.val (nI c), .val (gapD its)]) = .ret (.nx [sV (nI c), sV (gapD its), f2, f3]) := q
    unfold m_need_gapped_told
    exact expr_fn ((seq_nx ((if_no (not_b (tt_b a))).trans rfl)).trans s2)
  unfold m_need_with_gapped
  exact expr_fn ((seq_nx (expr_nx (call_r (a1 (d := nI c) rfl) (v_need_cords h1 h5)))).trans (expr_nx (call_r (aC (d := nI c) rfl (a1 (d := gapD its) rfl)) g)))
theorem v_need_gapped (h1 : 1 ≤ c) (h5 : c ≤ 5) (h : GapOk c its) : m_need_gapped [.val (nI c), .val (gapD its)] = .ret (gapD its) := by
  unfold m_need_gapped
  exact fn_v ((seq_nx (expr_nx (call_r (aC (d := nI c) rfl (a1 (d := gapD its) rfl)) (v_gap h1 h5 h)))).trans (ret_rv rfl))
def lsD (ls : List (List Deed)) : D := .list (ls.map rowD)
theorem v_lots_in (h1 : 1 ≤ c) (h5 : c ≤ 5) (few : its.length ≤ 12) : m_lots_in_gapped [.val (nI c), .val (gapD its)] = .ret (lsD (lotsG c its)) := by
  have cp : eCompS (eVar 1) (gN 2) fYes (eIf (tt (e2 dIsN (eVar 2) (eC .none))) (eCall m_deeds_with (aVal (eVar 0) (aVal (eC d_WORDS) aNil))) (eVar 2)) [2] (startE 3 [.val (nI c), .val (gapD its)]) = .ret (lsD (lotsG c its)) := by
    rw [compS_any (d := gapD its) (ds := its.map itD) rfl rfl]
    unfold endComp
    rw [if_pos (by rw [List.length_map]; exact small_len (by omega)), comp_all (g := fun it => rowD (lotO c it)) its fun it hi => ?_]
    · show Tr.ret (PyData.list _) = _
      unfold lsD lotsG
      rw [List.map_map]
      rfl
    · refine ⟨[sV (nI c), sV (gapD its), sV (itD it)], rfl, rfl, ?_⟩
      cases it with
      | none => exact (eif_yes (show tt (e2 dIsN (eVar 2) (eC .none)) _ = .ret true from rfl)).trans (call_r (aC (d := nI c) rfl (a1 (d := d_WORDS) rfl)) (full_ok h1 h5).2.2.1)
      | some l => exact (eif_no (show tt (e2 dIsN (eVar 2) (eC .none)) _ = .ret false from rfl)).trans rfl
  unfold m_lots_in_gapped
  exact fn_v (ret_rv cp)
theorem lots_ok (h1 : 1 ≤ c) (h5 : c ≤ 5) (h : GapOk c its) : ∀ l ∈ lotsG c its, LotOk c l := fun l hl => by
  obtain ⟨it, hi, rfl⟩ := List.mem_map.mp hl
  cases it with
  | none => exact (full_ok h1 h5).1
  | some l => exact h.lot l hi
theorem lots_len : (lotsG c its).length = its.length := List.length_map ..
abbrev bMany : FS := sSet 2 (e2 dMul (eVar 2) (eCB dLenA (lCons (eVar 3) lNil)))
theorem len_rowD {i : Nat} {env : Ev} (h : eVar i env = .ret (rowD l)) : eCB dLenA (lCons (eVar i) lNil) env = .ret (nI l.length) := cb_r (lc1 h) (by
  show some (nI (l.map dD).length) = _
  rw [List.length_map])
theorem many_walk {R : D} : ∀ (ls : List (List Deed)) (t : Nat) (d3 : Option Slot), (∀ l ∈ ls, l.length ≤ 20) → ∃ e3, forD (gN 3) bMany (ls.map rowD) [sV (nI c), sV R, sV (nI t), d3] = .ret (.nx [sV (nI c), sV R, sV (nI (ls.foldl (fun t l => t * l.length) t)), e3])
  | [], t, d3, _ => ⟨d3, rfl⟩
  | l :: ls, t, d3, h => by
    obtain ⟨e3, q⟩ := many_walk (R := R) ls (t * l.length) (sV (rowD l)) fun x hx => h x (List.mem_cons_of_mem _ hx)
    have b : bMany [sV (nI c), sV R, sV (nI t), sV (rowD l)] = .ret (.nx [sV (nI c), sV R, sV (nI (t * l.length)), sV (rowD l)]) := set_nx (e2_r (x := nI t) rfl (len_rowD rfl) (nI_mulS (by have := h l List.mem_cons_self; omega)))
    exact ⟨e3, (forD_nx (env1 := [sV (nI c), sV R, sV (nI t), sV (rowD l)]) rfl b).trans q⟩
theorem v_many (h1 : 1 ≤ c) (h5 : c ≤ 5) (h : GapOk c its) : m_many_fillings [.val (nI c), .val (gapD its)] = .ret (nI (manyF (lotsG c its))) := by
  obtain ⟨e3, q⟩ := many_walk (c := c) (R := gapD its) (lotsG c its) 1 none fun l hl => (lots_ok h1 h5 h l hl).few h5
  have s3 : sForS (eCall m_lots_in_gapped (aVal (eVar 0) (aVal (eVar 1) aNil))) (gN 3) bMany [sV (nI c), sV (gapD its), sV (nI 1), none] = .ret (.nx [sV (nI c), sV (gapD its), sV (nI (manyF (lotsG c its))), e3]) :=
    (forS_l (call_r (aC (d := nI c) rfl (a1 (d := gapD its) rfl)) (v_lots_in h1 h5 h.len))).trans q
  unfold m_many_fillings
  exact fn_v ((seq_nx (expr_nx (call_r (aC (d := nI c) rfl (a1 (d := gapD its) rfl)) (v_gap h1 h5 h)))).trans ((seq_nx (set_nx (d := nI 1) rfl)).trans ((seq_nx s3).trans (ret_rv rfl))))
end
end FL
end
section
set_option linter.all false
set_option maxRecDepth 100000
namespace FL
open PySem PySem.Spec PyProof.Rows L2 DL FM ZS
def eqB (d e : Deed) : Bool := PyData.eqv (dD d) (dD e) == decide (d = e)
theorem eq_all : ((full 5).all fun d => (full 5).all fun e => eqB d e) = true := by decide +kernel
theorem eqv_deed {d e : Deed} (hd : d ∈ full 5) (he : e ∈ full 5) : PyData.eqv (dD d) (dD e) = decide (d = e) :=
  beq_iff_eq.mp (List.all_eq_true.mp (List.all_eq_true.mp eq_all d hd) e he)
theorem eqv_rows : ∀ {r s : List Deed}, (∀ d ∈ r, d ∈ full 5) → (∀ d ∈ s, d ∈ full 5) → PyData.eqvAll (r.map dD) (s.map dD) = decide (r = s)
  | [], [], _, _ => rfl
  | [], _ :: _, _, _ => by simp [PyData.eqvAll]
  | _ :: _, [], _, _ => by simp [PyData.eqvAll]
  | d :: r, e :: s, hd, he => by
    show (PyData.eqv (dD d) (dD e) && PyData.eqvAll (r.map dD) (s.map dD)) = _
    rw [eqv_deed (hd d List.mem_cons_self) (he e List.mem_cons_self), eqv_rows (fun x h => hd x (List.mem_cons_of_mem _ h)) fun x h => he x (List.mem_cons_of_mem _ h)]
    by_cases h : d = e <;> by_cases g : r = s <;> simp [h, g]
theorem eqv_row {r s : List Deed} (hr : ∀ d ∈ r, d ∈ full 5) (hs : ∀ d ∈ s, d ∈ full 5) : PyData.eqv (rowD r) (rowD s) = decide (r = s) := eqv_rows hr hs
theorem can_wD (w : Nat) : (wD w).canLay0 = true := by
  match w with
  | 0 => (simp [wD, PyData.canLay0]; decide +kernel)
  | 1 => (simp [wD, PyData.canLay0]; decide +kernel)
  | 2 => (simp [wD, PyData.canLay0]; decide +kernel)
  | _ + 3 => (simp [wD, PyData.canLay0]; decide +kernel)
theorem can_dD (d : Deed) : (dD d).canLay0 = true := by
  show ((wD d.1).canLay0 && PyData.canLayAll0 [nI d.2]) = true
  rw [can_wD]
  simp [PyData.canLayAll0, PyData.canLay0, nI]
theorem can_rowD : ∀ r : List Deed, PyData.canLayAll0 (r.map dD) = true
  | [] => rfl
  | d :: r => by
    show ((dD d).canLay0 && PyData.canLayAll0 (r.map dD)) = true
    rw [can_dD, can_rowD r]
    rfl
theorem dep_dD (d : Deed) : (dD d).depth = 1 := by
  obtain ⟨w, p⟩ := d
  match w with
  | 0 => rfl
  | 1 => rfl
  | 2 => rfl
  | _ + 3 => rfl
theorem dep_row : ∀ r : List Deed, PyData.depthAll (r.map dD) ≤ 1
  | [] => Nat.zero_le _
  | d :: r => by
    show max (dD d).depth (PyData.depthAll (r.map dD)) ≤ 1
    rw [dep_dD]
    exact Nat.max_le.mpr ⟨Nat.le_refl _, dep_row r⟩
section
variable {γ : Type} [DecidableEq γ] {f : γ → D} {x : γ}
theorem mem_gen : ∀ {ls : List γ}, (∀ y ∈ ls, PyData.eqv (f y) (f x) = decide (y = x)) → memD (f x) (ls.map f) = mbF x ls
  | [], _ => rfl
  | y :: ls, h => by
    have ih := mem_gen (ls := ls) fun z hz => h z (List.mem_cons_of_mem _ hz)
    unfold memD mbF at ih ⊢
    rw [List.map_cons, List.any_cons, ih, h y List.mem_cons_self]
    by_cases e : y = x
    · subst e; simp
    · have e2 : ¬ (x = y) := fun z => e z.symm
      simp [e, e2]
theorem idx_gen : ∀ {ls : List γ}, (∀ y ∈ ls, PyData.eqv (f y) (f x) = decide (y = x)) → x ∈ ls → (ls.map f).findIdx (fun z => PyData.eqv z (f x)) = plF ls x
  | [], _, h => by cases h
  | y :: ls, h, m => by
    unfold plF
    rw [List.map_cons, List.findIdx_cons, h y List.mem_cons_self, List.idxOf_cons]
    by_cases e : y = x
    · rw [decide_eq_true e, beq_iff_eq.mpr e]
      rfl
    · have e2 : (y == x) = false := beq_eq_false_iff_ne.mpr e
      rw [decide_eq_false e, e2]
      have m : x ∈ ls := (List.mem_cons.mp m).elim (fun z => absurd z.symm e) id
      show _ + 1 = _ + 1
      rw [idx_gen (fun z hz => h z (List.mem_cons_of_mem _ hz)) m]
      rfl
theorem inOk_gen {ls : List γ} (can : ∀ y, (f y).canLay0 = true) (dp : (f x).depth ≤ 60) : inOk (f x) (ls.map f) = true := by
  unfold inOk
  rw [can, decide_eq_true dp]
  have : (ls.map f).all PyData.canLay0 = true := by
    rw [List.all_map]
    exact List.all_eq_true.mpr fun l _ => can l
  rw [this]
  rfl
end
theorem mem_deed {d : Deed} {l : List Deed} (hd : d ∈ full 5) (hl : ∀ e ∈ l, e ∈ full 5) : dInA false (dD d) (rowD l) = some (.bool (mbF d l)) := by
  show (if (flatD (dD d) && (l.map dD).all flatD) || inOk (dD d) (l.map dD) then some (PyData.bool (if false = true then !memD (dD d) (l.map dD) else memD (dD d) (l.map dD))) else none) = _
  rw [inOk_gen can_dD (by rw [dep_dD]; decide), Bool.or_true, if_pos rfl, if_neg Bool.false_ne_true, mem_gen fun e he => eqv_deed (hl e he) hd]
theorem idx_deed {d : Deed} {l : List Deed} (hd : d ∈ full 5) (hl : ∀ e ∈ l, e ∈ full 5) (m : d ∈ l) : dIdxA (l.map dD) (dD d) = some (nI (plF l d)) := by
  unfold dIdxA
  rw [if_pos ⟨inOk_gen can_dD (by rw [dep_dD]; decide), by rw [mem_gen fun e he => eqv_deed (hl e he) hd]; exact mbF_iff.mpr m⟩, idx_gen (fun e he => eqv_deed (hl e he) hd) m]
  rfl
theorem mem_rowL {r : List Deed} {L : List (List Deed)} (hr : ∀ d ∈ r, d ∈ full 5) (hL : ∀ s ∈ L, ∀ d ∈ s, d ∈ full 5) : dInA false (rowD r) (lsD L) = some (.bool (mbF r L)) := by
  show (if (flatD (rowD r) && (L.map rowD).all flatD) || inOk (rowD r) (L.map rowD) then some (PyData.bool (if false = true then !memD (rowD r) (L.map rowD) else memD (rowD r) (L.map rowD))) else none) = _
  rw [inOk_gen (f := rowD) (fun y => can_rowD y) (by have := dep_row r; show PyData.depthAll (r.map dD) + 1 ≤ 60; omega), Bool.or_true, if_pos rfl, if_neg Bool.false_ne_true, mem_gen fun s hs => eqv_row (hL s hs) hr]
theorem idx_rowL {r : List Deed} {L : List (List Deed)} (hr : ∀ d ∈ r, d ∈ full 5) (hL : ∀ s ∈ L, ∀ d ∈ s, d ∈ full 5) (m : r ∈ L) : dIdxA (L.map rowD) (rowD r) = some (nI (plF L r)) := by
  unfold dIdxA
  rw [if_pos ⟨inOk_gen (f := rowD) (fun y => can_rowD y) (by have := dep_row r; show PyData.depthAll (r.map dD) + 1 ≤ 60; omega), by rw [mem_gen fun s hs => eqv_row (hL s hs) hr]; exact mbF_iff.mpr m⟩, idx_gen (fun s hs => eqv_row (hL s hs) hr) m]
  rfl
section
variable {c : Nat} {l : List Deed} {its : List (Option (List Deed))} {ds : List Deed}
instance (ls : List (List Deed)) (ds : List Deed) : Decidable (FilF ls ds) := inferInstanceAs (Decidable (_ ∧ _))
abbrev tg34b : FG := gT 2 (gsCons (gN 3) (gsCons (gN 4) gsNil))
theorem v_fills (h1 : 1 ≤ c) (h5 : c ≤ 5) (h : GapOk c its) (hl : ds.length ≤ 40) (hd : Ds c ds) : m_fills [.val (nI c), .val (gapD its), .val (rowD ds)] = .ret (.bool (decide (FilF (lotsG c its) ds))) := by
  let e0 : Ev := startE 5 [.val (nI c), .val (gapD its), .val (rowD ds)]
  have l1 : eCB dLenA (lCons (eVar 2) lNil) e0 = .ret (nI ds.length) := len_rowD (l := ds) rfl
  have l2 : eCB dLenA (lCons (eVar 1) lNil) e0 = .ret (nI its.length) := cb_r (lc1 (d := gapD its) rfl) (by
    show some (nI (its.map itD).length) = _
    rw [List.length_map])
  have t : tt (e2 dNe (eCB dLenA (lCons (eVar 2) lNil)) (eCB dLenA (lCons (eVar 1) lNil))) e0 = .ret (!decide (ds.length = its.length)) := tt_b (e2_r l1 l2 nI_ne)
  have lots : eCall m_lots_in_gapped (aVal (eVar 0) (aVal (eVar 1) aNil)) e0 = .ret (lsD (lotsG c its)) := call_r (aC (d := nI c) rfl (a1 (d := gapD its) rfl)) (v_lots_in h1 h5 h.len)
  have L5 : ∀ l ∈ lotsG c its, ∀ e ∈ l, e ∈ full 5 := fun l hl e he => five_of h1 h5 ((lots_ok h1 h5 h l hl).mem e he)
  unfold m_fills
  by_cases e : ds.length = its.length
  · rw [decide_eq_true e] at t
    have cp : eCompZM (lCons (eVar 2) (lCons (eCall m_lots_in_gapped (aVal (eVar 0) (aVal (eVar 1) aNil))) lNil)) tg34b fYes (e2 (dInA false) (eVar 3) (eVar 4)) [3, 4] e0 = .ret (.list ((ds.zip (lotsG c its)).map fun p => .bool (mbF p.1 p.2))) := by
      unfold eCompZM
      rw [lc2 (x := rowD ds) rfl lots, bret, show zipOfM [rowD ds, lsD (lotsG c its)] = some ((ds.zip (lotsG c its)).map fun p => .tuple [dD p.1, rowD p.2]) from congrArg some (zip_map dD rowD ds _)]
      show endComp _ _ _ _ _ = _
      unfold endComp
      rw [if_pos (by rw [List.length_map, List.length_zip]; exact small_len (by omega)), comp_all (g := fun p => PyData.bool (mbF p.1 p.2)) (ds.zip (lotsG c its)) fun p hp => ?_]
      · rfl
      · have m := List.of_mem_zip (show (p.1, p.2) ∈ ds.zip (lotsG c its) from hp)
        exact ⟨[sV (nI c), sV (gapD its), sV (rowD ds), sV (dD p.1), sV (rowD p.2)], rfl, rfl, e2_r (x := dD p.1) (y := rowD p.2) rfl rfl (mem_deed (five_of h1 h5 (hd _ m.1)) (L5 _ m.2))⟩
    refine fn_v ((seq_nx ((if_no t).trans rfl)).trans (ret_rv (cb_r (lc1 cp) ((all_map (fun p : Deed × List Deed => mbF p.1 p.2) (ds.zip (lotsG c its))).trans (congrArg (fun b => some (PyData.bool b)) ?_)))))
    rw [Bool.eq_iff_iff, List.all_eq_true, decide_eq_true_iff]
    constructor
    · intro q
      exact ⟨by rw [lots_len]; exact e, fun p hp => mbF_iff.mp (q p hp)⟩
    · exact fun ⟨_, q⟩ p hp => mbF_iff.mpr (q p hp)
  · rw [decide_eq_false e] at t
    have no : decide (FilF (lotsG c its) ds) = false := decide_eq_false fun q => e (by rw [q.1, lots_len])
    rw [no]
    have s1 : sIf (tt (e2 dNe (eCB dLenA (lCons (eVar 2) lNil)) (eCB dLenA (lCons (eVar 1) lNil)))) (sRet (eC (.bool false))) sNext e0 = .ret (.rv (.bool false)) := (if_yes t).trans rfl
    refine fn_v ?_
    unfold sSeq
    rw [show sIf _ _ _ (startE 5 [.val (nI c), .val (gapD its), .val (rowD ds)]) = _ from s1]
    rfl
theorem v_does (h1 : 1 ≤ c) (h5 : c ≤ 5) (h : GapOk c its) (hl : ds.length ≤ 40) (hd : Ds c ds) : m_does_fill [.val (nI c), .val (gapD its), .val (rowD ds)] = .ret (.bool (decide (FilF (lotsG c its) ds))) := by
  unfold m_does_fill
  exact fn_v ((seq_nx (expr_nx (call_r (aC (d := nI c) rfl (a1 (d := gapD its) rfl)) (v_gap h1 h5 h)))).trans ((seq_nx (expr_nx (call_r (aC (d := nI c) rfl (a1 (d := rowD ds) rfl)) (v_need_row52 h1 h5 hl hd)))).trans (ret_rv (call_r (aC (d := nI c) rfl (aC (d := gapD its) rfl (a1 (d := rowD ds) rfl))) (v_fills h1 h5 h hl hd)))))
theorem v_need_num {n b : Nat} (h : n ≤ b) : m_need_number [.val (nI n), .val (.int 0), .val (nI b)] = .ret .none := v_number51 (a := 0) (Nat.zero_le _) h
abbrev bAt : FS := sSeq (sAsg (eCB dDivmod (lCons (eVar 4) (lCons (eCB dLenA (lCons (eVar 5) lNil)) lNil))) (gT 2 (gsCons (gN 4) (gsCons (gN 6) gsNil)))) (sApp 3 (e2 dIx (eVar 5) (eVar 6)))
def atE (c : Nat) (G : D) (N n : Nat) (row : List Deed) (d5 d6 : Option Slot) : Ev := [sV (nI c), sV G, sV (nI N), some (.own (.list (row.map dD))), sV (nI n), d5, d6]
theorem ix_row {n : Nat} {d : Deed} (h : l[n]? = some d) : dIx (rowD l) (nI n) = some (dD d) := by
  have g : (l.map dD)[n]? = some (dD d) := by rw [List.getElem?_map, h]; rfl
  have lt := (List.getElem?_eq_some_iff.mp g).1
  show atI (l.map dD) (n : Int) = _
  unfold atI ixN
  rw [if_pos (by omega), if_pos (by omega)]
  exact g
theorem at_walk {G : D} {N : Nat} : ∀ (ls : List (List Deed)) (n : Nat) (row : List Deed) (d5 d6 : Option Slot), (∀ l ∈ ls, 1 ≤ l.length ∧ l.length ≤ 20) → row.length + ls.length ≤ 40 → ∃ n' f5 f6, forD (gN 5) bAt (ls.map rowD) (atE c G N n row d5 d6) = .ret (.nx (atE c G N n' (backF ls n row) f5 f6))
  | [], n, row, d5, d6, _, _ => ⟨n, d5, d6, rfl⟩
  | l :: ls, n, row, d5, d6, h, few => by
    obtain ⟨a, b⟩ := h l List.mem_cons_self
    rw [List.length_cons] at few
    have lt : n % l.length < l.length := Nat.mod_lt _ a
    have g : l[n % l.length]? = some l[n % l.length] := List.getElem?_eq_getElem lt
    obtain ⟨n', f5, f6, q⟩ := at_walk (G := G) (N := N) ls (n / l.length) (row ++ [l[n % l.length]]) (sV (rowD l)) (sV (nI (n % l.length))) (fun x hx => h x (List.mem_cons_of_mem _ hx)) (by rw [List.length_append]; show row.length + 1 + _ ≤ 40; omega)
    have s1 : sAsg (eCB dDivmod (lCons (eVar 4) (lCons (eCB dLenA (lCons (eVar 5) lNil)) lNil))) (gT 2 (gsCons (gN 4) (gsCons (gN 6) gsNil))) (atE c G N n row (sV (rowD l)) d6) = .ret (.nx (atE c G N (n / l.length) row (sV (rowD l)) (sV (nI (n % l.length))))) :=
      asg_two (cb_r (lc2 (x := nI n) rfl (len_rowD (l := l) rfl)) (dDivmod_n a (by omega)))
    have s2 : sApp 3 (e2 dIx (eVar 5) (eVar 6)) (atE c G N (n / l.length) row (sV (rowD l)) (sV (nI (n % l.length)))) = .ret (.nx (atE c G N (n / l.length) (row ++ [l[n % l.length]]) (sV (rowD l)) (sV (nI (n % l.length))))) := by
      refine (sApp_n (ds := row.map dD) (z := dD l[n % l.length]) rfl (e2_r (x := rowD l) (y := nI (n % l.length)) rfl rfl (ix_row g)) (by rw [List.length_map]; omega)).trans ?_
      unfold atE
      rw [List.map_append]
      rfl
    refine ⟨n', f5, f6, ?_⟩
    rw [backF, g]
    exact (forD_nx (env1 := atE c G N n row (sV (rowD l)) d6) rfl ((seq_nx s1).trans s2)).trans q
theorem v_at {n : Nat} {r : List Deed} (h1 : 1 ≤ c) (h5 : c ≤ 5) (h : GapOk c its) (hr : (rowsF (lotsG c its))[n]? = some r) : m_filling_at [.val (nI c), .val (gapD its), .val (nI n)] = .ret (rowD r) := by
  have lt := (List.getElem?_eq_some_iff.mp hr).1
  rw [rowsF_len] at lt
  have lo := lots_ok h1 h5 h
  obtain ⟨n', f5, f6, q⟩ := at_walk (c := c) (G := gapD its) (N := n) (lotsG c its).reverse n [] none none (fun l hl => ⟨(lo l (List.mem_reverse.mp hl)).pos, (lo l (List.mem_reverse.mp hl)).few h5⟩) (by rw [List.length_reverse, lots_len]; have := h.len; show 0 + _ ≤ 40; omega)
  rw [back_rows (lotsG c its) hr, List.nil_append] at q
  have rv : eRev (eCall m_lots_in_gapped (aVal (eVar 0) (aVal (eVar 1) aNil))) (atE c (gapD its) n n [] none none) = .ret (.list ((lotsG c its).reverse.map rowD)) := by
    unfold eRev
    rw [call_r (aC (d := nI c) rfl (a1 (d := gapD its) rfl)) (v_lots_in h1 h5 h.len), bret]
    show Tr.ret (PyData.list ((lotsG c its).map rowD).reverse) = _
    rw [List.map_reverse]
  have s4 := (forS_l (tgt := gN 5) (body := bAt) rv).trans q
  have s0 : sExpr (eCall m_need_number (aVal (eVar 2) (aVal (eC (.int 0)) (aVal (e2 dSub (eCall m_many_fillings (aVal (eVar 0) (aVal (eVar 1) aNil))) (eC (.int 1))) aNil)))) (startE 7 [.val (nI c), .val (gapD its), .val (nI n)]) = .ret (.nx (startE 7 [.val (nI c), .val (gapD its), .val (nI n)])) :=
    expr_nx (call_r (aC (d := nI n) rfl (aC (d := .int 0) rfl (a1 (e2_r (call_r (aC (d := nI c) rfl (a1 (d := gapD its) rfl)) (v_many h1 h5 h)) (y := nI 1) rfl (nI_sub (by omega)))))) (v_need_num (by omega)))
  unfold m_filling_at
  refine fn_v ((seq_nx s0).trans ((seq_nx (show sSetO 3 (eLst lNil) (startE 7 [.val (nI c), .val (gapD its), .val (nI n)]) = .ret (.nx [sV (nI c), sV (gapD its), sV (nI n), some (.own (.list [])), none, none, none]) from rfl)).trans ((seq_nx (set_nx (d := nI n) rfl)).trans ((seq_nx (show sForS (eRev (eCall m_lots_in_gapped (aVal (eVar 0) (aVal (eVar 1) aNil)))) (gN 5) bAt (atE c (gapD its) n n [] none none) = .ret (.nx (atE c (gapD its) n n' r.reverse f5 f6)) from s4)).trans (ret_rv (cb_r (lc1 (d := .list (r.map dD)) ?_) rfl))))))
  unfold eRev atE
  show Tr.ofOpt (dRev (.list (r.reverse.map dD))) = _
  show Tr.ret (PyData.list (r.reverse.map dD).reverse) = _
  rw [← List.map_reverse, List.reverse_reverse]
abbrev bNum : FS := sSet 3 (e2 dAddA (e2 dMul (eVar 3) (eCB dLenA (lCons (eVar 5) lNil))) (eIdxM (eVar 5) (eVar 4)))
abbrev tg45b : FG := gT 2 (gsCons (gN 4) (gsCons (gN 5) gsNil))
theorem num_walk {G R : D} : ∀ (ps : List (Deed × List Deed)) (n : Nat) (d4 d5 : Option Slot), (∀ p ∈ ps, p.1 ∈ p.2 ∧ p.2.length ≤ 20 ∧ ∀ e ∈ p.2, e ∈ full 5) → ∃ f4 f5, forD tg45b bNum (ps.map fun p => .tuple [dD p.1, rowD p.2]) [sV (nI c), sV G, sV R, sV (nI n), d4, d5] = .ret (.nx [sV (nI c), sV G, sV R, sV (nI (ps.foldl (fun n p => n * p.2.length + plF p.2 p.1) n)), f4, f5])
  | [], n, d4, d5, _ => ⟨d4, d5, rfl⟩
  | p :: ps, n, d4, d5, h => by
    obtain ⟨m, few, h5⟩ := h p List.mem_cons_self
    obtain ⟨f4, f5, q⟩ := num_walk (G := G) (R := R) ps (n * p.2.length + plF p.2 p.1) (sV (dD p.1)) (sV (rowD p.2)) fun x hx => h x (List.mem_cons_of_mem _ hx)
    let e1 : Ev := [sV (nI c), sV G, sV R, sV (nI n), sV (dD p.1), sV (rowD p.2)]
    have ix : eIdxM (eVar 5) (eVar 4) e1 = .ret (nI (plF p.2 p.1)) := by
      show Tr.ofOpt (dIdxA (p.2.map dD) (dD p.1)) = _
      rw [idx_deed (h5 _ m) h5 m]
      rfl
    have b : bNum e1 = .ret (.nx [sV (nI c), sV G, sV R, sV (nI (n * p.2.length + plF p.2 p.1)), sV (dD p.1), sV (rowD p.2)]) := set_nx (e2_r (e2_r (x := nI n) rfl (len_rowD (l := p.2) rfl) (nI_mulS (by omega))) ix nI_add)
    exact ⟨f4, f5, (forD_nx (env1 := e1) rfl b).trans q⟩
theorem v_num (h1 : 1 ≤ c) (h5 : c ≤ 5) (h : GapOk c its) (hl : ds.length ≤ 40) (hd : Ds c ds) : m_number_of_filling [.val (nI c), .val (gapD its), .val (rowD ds)] = .ret (if FilF (lotsG c its) ds then nI (numF (lotsG c its) ds) else .none) := by
  let e0 : Ev := startE 6 [.val (nI c), .val (gapD its), .val (rowD ds)]
  have t : bNot (tt (eCall m_does_fill (aVal (eVar 0) (aVal (eVar 1) (aVal (eVar 2) aNil))))) e0 = .ret (!decide (FilF (lotsG c its) ds)) := not_b (tt_b (call_r (aC (d := nI c) rfl (aC (d := gapD its) rfl (a1 (d := rowD ds) rfl))) (v_does h1 h5 h hl hd)))
  unfold m_number_of_filling
  by_cases f : FilF (lotsG c its) ds
  · rw [decide_eq_true f] at t
    rw [if_pos f]
    obtain ⟨f4, f5, q⟩ := num_walk (c := c) (G := gapD its) (R := rowD ds) (ds.zip (lotsG c its)) 0 none none fun p hp => by
      have m := List.of_mem_zip (show (p.1, p.2) ∈ ds.zip (lotsG c its) from hp)
      have lo := lots_ok h1 h5 h p.2 m.2
      exact ⟨f.2 p hp, lo.few h5, fun e he => five_of h1 h5 (lo.mem e he)⟩
    have s3 : sForZM (lCons (eVar 2) (lCons (eCall m_lots_in_gapped (aVal (eVar 0) (aVal (eVar 1) aNil))) lNil)) tg45b bNum [sV (nI c), sV (gapD its), sV (rowD ds), sV (nI 0), none, none] = .ret (.nx [sV (nI c), sV (gapD its), sV (rowD ds), sV (nI (numF (lotsG c its) ds)), f4, f5]) := by
      unfold sForZM
      rw [lc2 (x := rowD ds) rfl (call_r (aC (d := nI c) rfl (a1 (d := gapD its) rfl)) (v_lots_in h1 h5 h.len)), bret, show zipOfM [rowD ds, lsD (lotsG c its)] = some ((ds.zip (lotsG c its)).map fun p => .tuple [dD p.1, rowD p.2]) from congrArg some (zip_map dD rowD ds _)]
      exact q
    exact fn_v ((seq_nx ((if_no t).trans rfl)).trans ((seq_nx (set_nx (d := nI 0) rfl)).trans ((seq_nx s3).trans (ret_rv rfl))))
  · rw [decide_eq_false f] at t
    rw [if_neg f]
    refine fn_v ?_
    unfold sSeq
    rw [show sIf _ _ _ (startE 6 [.val (nI c), .val (gapD its), .val (rowD ds)]) = .ret (.rv .none) from (if_yes t).trans rfl]
    rfl
end
end FL
end
section
set_option linter.all false
set_option maxRecDepth 100000
namespace FL
open PySem PySem.Spec PyProof.Rows L2 DL FM ZS
def shDB (d : Deed) : Bool := PyData.strOk (dD d).shown && (dD d).showable && !(dD d).hasDict && decide ((dD d).depth ≤ 1) && decide ((dD d).shown.length ≤ 19)
theorem shD_all : ((full 5).all shDB) = true := by decide +kernel
theorem sh_dD {d : Deed} (h : d ∈ full 5) : Sh (dD d) 1 19 := by
  have q := List.all_eq_true.mp shD_all d h
  unfold shDB at q
  simp only [Bool.and_eq_true, decide_eq_true_eq, Bool.not_eq_true'] at q
  exact ⟨q.1.1.1.1, q.1.1.1.2, q.1.1.2, q.1.2, q.2⟩
theorem sh_rowD {r : List Deed} {n : Nat} (h : ∀ d ∈ r, d ∈ full 5) (hl : r.length ≤ n) : Sh (rowD r) 2 (3 + n * 21) :=
  (Sh.tuple (xs := r.map dD) (k := 1) (w := 19) (n := n) (fun x hx => by
    obtain ⟨d, hd, rfl⟩ := List.mem_map.mp hx
    exact sh_dD (h d hd)) (by rw [List.length_map]; exact hl)).mono (Nat.le_refl _) (Nat.le_refl _)
theorem sh_big {n : Nat} (h : n < 2 ^ 1900) : Sh (nI n) 0 1921 := by
  have lg : ((n : Int)).natAbs.log2 < 1920 := by
    rw [Int.natAbs_natCast]
    by_cases z : n = 0
    · subst z
      decide
    · exact Nat.lt_trans ((Nat.log2_lt z).mpr h) (by decide)
  have e : (nI n).shown = ((toString ((n : Nat) : Int) : String) : Str) := PyData.shown_int _
  refine ⟨?_, decide_eq_true lg, rfl, Nat.le_refl _, ?_⟩
  · rw [e]
    unfold PyData.strOk
    rw [← Array.all_toList]
    refine List.all_eq_true.mpr fun k hk => decide_eq_true (Classical.byContradiction fun no => ?_)
    exact PyProof.Rows.int_text_free' k ⟨by omega, .inr (by omega)⟩ _ hk
  · rw [e]
    exact PyProof.Rows.int_text_len_1921 lg
theorem sh_bool (b : Bool) : Sh (.bool b) 0 20 := by
  cases b
  · exact ⟨by decide +kernel, by decide +kernel, by decide +kernel, by decide +kernel, by decide +kernel⟩
  · exact ⟨by decide +kernel, by decide +kernel, by decide +kernel, by decide +kernel, by decide +kernel⟩
def lexR : List Deed → List Deed → Prop
  | d :: r, e :: s => ltP d e ∨ (d = e ∧ lexR r s)
  | _, _ => False
theorem lexR_snoc {d e : Deed} : ∀ {r s : List Deed}, r.length = s.length → lexR r s → lexR (r ++ [d]) (s ++ [e])
  | [], [], _, h => h.elim
  | a :: r, b :: s, hl, h => by
    rcases h with h | ⟨h, k⟩
    · exact .inl h
    · exact .inr ⟨h, lexR_snoc (Nat.succ.inj hl) k⟩
theorem lexR_last {d e : Deed} (h : ltP d e) : ∀ r : List Deed, lexR (r ++ [d]) (r ++ [e])
  | [] => .inl h
  | a :: r => .inr ⟨rfl, lexR_last h r⟩
theorem rows_lex {ls : List (List Deed)} (h : ∀ l ∈ ls, l.Pairwise ltP) : (rowsF ls).Pairwise lexR := by
  induction ls using snoc_ind with
  | h0 => exact List.pairwise_singleton _ _
  | h ls l ih =>
    rw [rowsF_snoc]
    unfold growF
    have ih := ih fun x hx => h x (List.mem_append_left _ hx)
    refine List.pairwise_flatMap.mpr ⟨fun r _ => List.pairwise_map.mpr ((h l (List.mem_append_right _ (by simp))).imp fun q => lexR_last q r), ih.imp_of_mem fun {a b} ha hb q x hx y hy => ?_⟩
    obtain ⟨d, _, rfl⟩ := List.mem_map.mp hx
    obtain ⟨e, _, rfl⟩ := List.mem_map.mp hy
    exact lexR_snoc (by rw [(rows_fil ha).1, (rows_fil hb).1]) q
def ltD (d e : Deed) : Bool := PySem.W.dataLt (dD d) (dD e) == decide (ltP d e) && PySem.W.alike (dD d) (dD e)
theorem ltD_all : ((full 5).all fun d => (full 5).all fun e => ltD d e) = true := by decide +kernel
theorem lt_dD {d e : Deed} (hd : d ∈ full 5) (he : e ∈ full 5) : PySem.W.dataLt (dD d) (dD e) = decide (ltP d e) ∧ PySem.W.alike (dD d) (dD e) = true := by
  have h := List.all_eq_true.mp (List.all_eq_true.mp ltD_all d hd) e he
  unfold ltD at h
  rw [Bool.and_eq_true] at h
  exact ⟨beq_iff_eq.mp h.1, h.2⟩
theorem row_nlt : ∀ {r s : List Deed}, (∀ d ∈ r, d ∈ full 5) → (∀ d ∈ s, d ∈ full 5) → lexR r s → PySem.W.rowLt (s.map dD) (r.map dD) = false
  | d :: r, e :: s, hd, he, h => by
    have a := lt_dD (he e List.mem_cons_self) (hd d List.mem_cons_self)
    have q := PySem.W.dataLt_cons a.2 (s.map dD) (r.map dD)
    show PySem.W.rowLt (dD e :: s.map dD) (dD d :: r.map dD) = false
    have q : PySem.W.rowLt (dD e :: s.map dD) (dD d :: r.map dD) = if PyData.eqv (dD e) (dD d) = true then PySem.W.rowLt (s.map dD) (r.map dD) else PySem.W.dataLt (dD e) (dD d) := q
    rw [q, eqv_deed (he e List.mem_cons_self) (hd d List.mem_cons_self), a.1]
    rcases h with h | ⟨h, k⟩
    · have ne : ¬ e = d := fun z => ltP_irr (z ▸ h)
      rw [decide_eq_false ne, if_neg Bool.false_ne_true]
      exact decide_eq_false fun z => ltP_asym h z
    · rw [decide_eq_true h.symm, if_pos rfl]
      exact row_nlt (fun x hx => hd x (List.mem_cons_of_mem _ hx)) (fun x hx => he x (List.mem_cons_of_mem _ hx)) k
  | [], _, _, _, h => h.elim
  | _ :: _, [], _, _, h => h.elim
theorem row_le {r s : List Deed} (hr : ∀ d ∈ r, d ∈ full 5) (hs : ∀ d ∈ s, d ∈ full 5) (h : lexR r s) : PySem.W.dataLe false (id : D → D) (rowD r) (rowD s) = true := by
  show (!PySem.W.dataLt (.tuple (s.map dD)) (.tuple (r.map dD))) = true
  rw [PySem.W.dataLt_tuple]
  show (!PySem.W.rowLt (s.map dD) (r.map dD)) = true
  rw [row_nlt hr hs h]
  rfl
theorem alike_rows : ∀ {r s : List Deed}, (∀ d ∈ r, d ∈ full 5) → (∀ d ∈ s, d ∈ full 5) → PySem.W.alikeAll (r.map dD) (s.map dD) = true
  | [], _, _, _ => by cases ‹List Deed› <;> rfl
  | _ :: _, [], _, _ => rfl
  | d :: r, e :: s, hd, he => by
    show (PySem.W.alike (dD d) (dD e) && PySem.W.alikeAll (r.map dD) (s.map dD)) = true
    rw [(lt_dD (hd d List.mem_cons_self) (he e List.mem_cons_self)).2, alike_rows (fun x hx => hd x (List.mem_cons_of_mem _ hx)) fun x hx => he x (List.mem_cons_of_mem _ hx)]
    rfl
/-- rows that ascend, sorted -/
theorem sort_rows {L : List (List Deed)} {n : Nat} (few : L.length ≤ 1000) (h5 : ∀ r ∈ L, ∀ d ∈ r, d ∈ full 5) (hn : ∀ r ∈ L, r.length = n) (asc : L.Pairwise lexR) (one : n = 0 → L = [[]]) : dSortB [.list (L.map rowD)] = some (.list (L.map rowD)) := by
  by_cases z : n = 0
  · rw [one z]
    rfl
  cases L with
  | nil =>
    show dSortA [.list []] = _
    rfl
  | cons r L =>
    have e : ∃ d u, r = d :: u := by
      cases r with
      | nil => exact absurd (hn [] List.mem_cons_self).symm z
      | cons d u => exact ⟨d, u, rfl⟩
    obtain ⟨d, u, rfl⟩ := e
    have nb : dSortB [.list ((rowD (d :: u)) :: L.map rowD)] = dSortA [.list (rowD (d :: u) :: L.map rowD)] := by
      unfold dSortB
      split
      · rename_i hh
        injection hh with hh _
        injection hh with hh
        injection hh with hh _
        cases hh
      · rfl
    rw [List.map_cons, nb]
    have nn : dNums (rowD (d :: u) :: L.map rowD) = none := rfl
    have tup : ∀ x ∈ ((d :: u) :: L).map rowD, isTupB x = true ∧ x.canLay0 = true ∧ x.depth ≤ 60 ∧ ∀ y ∈ ((d :: u) :: L).map rowD, PySem.W.alike x y = true := fun x hx => by
      obtain ⟨r, hr, rfl⟩ := List.mem_map.mp hx
      refine ⟨?_, can_rowD r, by have := dep_row r; show PyData.depthAll (r.map dD) + 1 ≤ 60; omega, fun y hy => ?_⟩
      · cases r with
        | nil => exact absurd (hn [] hr).symm z
        | cons a b => rfl
      · obtain ⟨s, hs, rfl⟩ := List.mem_map.mp hy
        exact alike_rows (h5 r hr) (h5 s hs)
    have ok : sortOk (rowD (d :: u) :: L.map rowD) = true := by
      unfold sortOk
      rw [Bool.and_eq_true, List.all_eq_true, decide_eq_true_eq]
      refine ⟨fun x hx => ?_, by rw [List.length_cons, List.length_map]; exact few⟩
      obtain ⟨a, b, e, f⟩ := tup x hx
      rw [a, b, decide_eq_true e]
      exact List.all_eq_true.mpr f
    unfold dSortA
    simp only [nn, if_pos ok]
    have st : (rowD (d :: u) :: L.map rowD).Pairwise fun a b => PySem.W.dataLe false (id : D → D) a b = true := by
      have q : (((d :: u) :: L).map rowD).Pairwise fun a b => PySem.W.dataLe false (id : D → D) a b = true := List.pairwise_map.mpr (asc.imp_of_mem fun {a b} ha hb q => row_le (h5 a ha) (h5 b hb) q)
      exact q
    rw [List.mergeSort_of_pairwise st]
end FL
end
section
set_option linter.all false
set_option maxRecDepth 100000
namespace FL
open PySem PySem.Spec PyProof.Rows L2 DL FM ZS
section
variable {c : Nat} {l : List Deed} {its : List (Option (List Deed))} {ds : List Deed}
abbrev words4 : FE := eTup (lCons (eC (.str "cut")) (lCons (eC (.str "hook")) (lCons (eC (.str "join")) (lCons (eC (.str "swap")) lNil))))
theorem words4_r {env : Ev} : words4 env = .ret (famD [0, 1, 2, 3]) := rfl
theorem fam4 : [0, 1, 2, 3] ∈ fams := by decide
theorem v_ldeeds (h1 : 1 ≤ c) (h5 : c ≤ 5) : m_law_deeds [.val (nI c), .val (famD [0, 1, 2, 3])] = .ret (.list ((full c).map dD)) := (fam_ok h1 h5 fam4).1
theorem v_llots (h1 : 1 ≤ c) (h5 : c ≤ 5) (few : its.length ≤ 12) : m_law_lots56 [.val (nI c), .val (gapD its)] = .ret (lsD (lotsG c its)) := by
  have s0 : sSet 2 (eCB dTuple (lCons (eCall m_law_deeds (aVal (eVar 0) (aVal words4 aNil))) lNil)) (startE 4 [.val (nI c), .val (gapD its)]) = .ret (.nx [sV (nI c), sV (gapD its), sV (rowD (full c)), none]) :=
    set_nx (cb_r (lc1 (call_r (aC (d := nI c) rfl (a1 words4_r)) (v_ldeeds h1 h5))) rfl)
  have cp : eCompS (eVar 1) (gN 3) fYes (eIf (tt (e2 dIsN (eVar 3) (eC .none))) (eVar 2) (eVar 3)) [3] [sV (nI c), sV (gapD its), sV (rowD (full c)), none] = .ret (lsD (lotsG c its)) := by
    rw [compS_any (d := gapD its) (ds := its.map itD) rfl rfl]
    unfold endComp
    rw [if_pos (by rw [List.length_map]; exact small_len (by omega)), comp_all (g := fun it => rowD (lotO c it)) its fun it hi => ?_]
    · show Tr.ret (PyData.list _) = _
      unfold lsD lotsG
      rw [List.map_map]
      rfl
    · refine ⟨[sV (nI c), sV (gapD its), sV (rowD (full c)), sV (itD it)], rfl, rfl, ?_⟩
      cases it with
      | none => exact (eif_yes (show tt (e2 dIsN (eVar 3) (eC .none)) _ = .ret true from rfl)).trans rfl
      | some l => exact (eif_no (show tt (e2 dIsN (eVar 3) (eC .none)) _ = .ret false from rfl)).trans rfl
  unfold m_law_lots56
  exact fn_v ((seq_nx s0).trans (ret_rv cp))
theorem scn_snoc {d : Deed} : ∀ (ds : List Deed) (s : List Nat × Nat), scn c s (ds ++ [d]) = scn c s ds ++ [rstep c (ds.foldl (rstep c) s) d]
  | [], s => rfl
  | e :: ds, s => by
    show s :: scn c (rstep c s e) (ds ++ [d]) = _
    rw [scn_snoc ds]
    rfl
theorem rowS_snoc {d : Deed} : rowS c (ds ++ [d]) = rstep c (rowS c ds) d := by
  unfold rowS
  rw [List.foldl_append]
  rfl
def pthD (c : Nat) (r : List Deed) : D := .tuple [rowD r, .tuple (scF c (stL c, 0) r), nI (rowS c r).2]
theorem scF_snoc {d : Deed} : scF c (stL c, 0) (ds ++ [d]) = scF c (stL c, 0) ds ++ [fD (uponL c (rowS c ds).1 (dF c d))] := by
  unfold scF
  rw [scn_snoc, List.map_append]
  rfl
theorem scF_end : ∃ ys, scF c (stL c, 0) ds = ys ++ [fD (rowS c ds).1] := by
  obtain ⟨ys, e⟩ := scn_last c ds (stL c, 0)
  refine ⟨ys.map fun x => fD x.1, ?_⟩
  unfold scF
  rw [e, List.map_append]
  rfl
theorem scF_len : (scF c (stL c, 0) ds).length = ds.length + 1 := by
  unfold scF
  rw [List.length_map, scn_len]
def smD (c : Nat) (d : Deed) : D := .tuple [dD d, fD (dF c d)]
def thE (c : Nat) (I F L S : D) (acc : List D) (d6 d7 d8 d9 d10 d11 d12 : Option Slot) : Ev := [sV (nI c), sV I, sV F, sV L, sV S, some (.own (.list acc)), d6, d7, d8, d9, d10, d11, d12]
abbrev bIn56 : FS := sSeq (sAsg (eCall m_law_upon (aVal (eVar 0) (aVal (e2 dIx (eVar 7) (eNeg (eC (.int 1)))) (aVal (eVar 10) aNil)))) (gT 2 (gsCons (gN 11) (gsCons (gN 12) gsNil)))) (sApp 5 (eTup (lCons (e2 dAddA (eVar 6) (eTup (lCons (eVar 9) lNil))) (lCons (e2 dAddA (eVar 7) (eTup (lCons (eVar 11) lNil))) (lCons (e2 dAddA (eVar 8) (eVar 12)) lNil)))))
abbrev tg910 : FG := gT 2 (gsCons (gN 9) (gsCons (gN 10) gsNil))
abbrev tg678 : FG := gT 3 (gsCons (gN 6) (gsCons (gN 7) (gsCons (gN 8) gsNil)))
theorem catT {a b : List D} (h : a.length + b.length ≤ 5000) : dAddA (.tuple a) (.tuple b) = some (.tuple (a ++ b)) := by
  have e : dAdd (.tuple a) (.tuple b) = some (.tuple (a ++ b)) := by
    unfold dAdd
    dsimp only
    rw [if_pos (sl5000 h)]
  unfold dAddA
  rw [e]
theorem tup3b {fa fb fc : FE} {env : Ev} {x y z : D} (ha : fa env = .ret x) (hb : fb env = .ret y) (hc : fc env = .ret z) : eTup (lCons fa (lCons fb (lCons fc lNil))) env = .ret (.tuple [x, y, z]) := by
  unfold eTup lCons lNil
  rw [ha, bret, hb, bret, hc, bret]
  rfl
theorem in_walk (h1 : 1 ≤ c) (h5 : c ≤ 5) {I F L S : D} {r : List Deed} (hr : r.length ≤ 40) : ∀ (ls : List Deed) (acc : List D) (d9 d10 d11 d12 : Option Slot), (∀ d ∈ ls, d ∈ full c) → acc.length + ls.length ≤ 990 →
    ∃ f9 f10 f11 f12, forD tg910 bIn56 (ls.map (smD c)) (thE c I F L S acc (sV (rowD r)) (sV (.tuple (scF c (stL c, 0) r))) (sV (nI (rowS c r).2)) d9 d10 d11 d12) = .ret (.nx (thE c I F L S (acc ++ ls.map fun d => pthD c (r ++ [d])) (sV (rowD r)) (sV (.tuple (scF c (stL c, 0) r))) (sV (nI (rowS c r).2)) f9 f10 f11 f12))
  | [], acc, d9, d10, d11, d12, _, _ => ⟨d9, d10, d11, d12, by
      have e : acc ++ ([] : List Deed).map (fun d => pthD c (r ++ [d])) = acc := List.append_nil acc
      rw [e]
      rfl⟩
  | d :: ls, acc, d9, d10, d11, d12, h, few => by
    rw [List.length_cons] at few
    have Dk := deed_ok h1 h5 (h d List.mem_cons_self)
    obtain ⟨ys, ey⟩ := scF_end (c := c) (ds := r)
    let e1 : Ev := thE c I F L S acc (sV (rowD r)) (sV (.tuple (scF c (stL c, 0) r))) (sV (nI (rowS c r).2)) (sV (dD d)) (sV (fD (dF c d))) d11 d12
    let e2' : Ev := thE c I F L S acc (sV (rowD r)) (sV (.tuple (scF c (stL c, 0) r))) (sV (nI (rowS c r).2)) (sV (dD d)) (sV (fD (dF c d))) (sV (fD (uponL c (rowS c r).1 (dF c d)))) (sV (nI (leftL c (rowS c r).1 (dF c d))))
    have last : e2 dIx (eVar 7) (eNeg (eC (.int 1))) e1 = .ret (fD (rowS c r).1) := e2_r (x := .tuple (scF c (stL c, 0) r)) rfl neg1 (by rw [ey]; exact last_ixT)
    have s1 : sAsg (eCall m_law_upon (aVal (eVar 0) (aVal (e2 dIx (eVar 7) (eNeg (eC (.int 1)))) (aVal (eVar 10) aNil)))) (gT 2 (gsCons (gN 11) (gsCons (gN 12) gsNil))) e1 = .ret (.nx e2') :=
      asg_two (call_r (aC (d := nI c) rfl (aC last (a1 (d := fD (dF c d)) rfl))) (v_lawup h1 h5 (rowS_val r) Dk.val))
    have s2 : sApp 5 (eTup (lCons (e2 dAddA (eVar 6) (eTup (lCons (eVar 9) lNil))) (lCons (e2 dAddA (eVar 7) (eTup (lCons (eVar 11) lNil))) (lCons (e2 dAddA (eVar 8) (eVar 12)) lNil)))) e2' = .ret (.nx (thE c I F L S (acc ++ [pthD c (r ++ [d])]) (sV (rowD r)) (sV (.tuple (scF c (stL c, 0) r))) (sV (nI (rowS c r).2)) (sV (dD d)) (sV (fD (dF c d))) (sV (fD (uponL c (rowS c r).1 (dF c d)))) (sV (nI (leftL c (rowS c r).1 (dF c d)))))) := by
      refine (sApp_n (ds := acc) (z := pthD c (r ++ [d])) rfl (tup3b (x := rowD (r ++ [d])) (y := .tuple (scF c (stL c, 0) (r ++ [d]))) (z := nI (rowS c (r ++ [d])).2) ?_ ?_ ?_) (by omega)).trans rfl
      · refine e2_r (x := rowD r) rfl (tup1 (x := dD d) rfl) ?_
        show dAddA (.tuple (r.map dD)) (.tuple [dD d]) = _
        rw [catT (by rw [List.length_map]; show r.length + 1 ≤ 5000; omega)]
        unfold rowD
        rw [List.map_append]
        rfl
      · refine e2_r (x := .tuple (scF c (stL c, 0) r)) rfl (tup1 (x := fD (uponL c (rowS c r).1 (dF c d))) rfl) ?_
        rw [catT (by rw [scF_len]; show r.length + 1 + 1 ≤ 5000; omega), scF_snoc]
      · refine e2_r (x := nI (rowS c r).2) (y := nI (leftL c (rowS c r).1 (dF c d))) rfl rfl ?_
        rw [rowS_snoc]
        exact nI_add
    obtain ⟨f9, f10, f11, f12, q⟩ := in_walk h1 h5 (I := I) (F := F) (L := L) (S := S) hr ls (acc ++ [pthD c (r ++ [d])]) (sV (dD d)) (sV (fD (dF c d))) (sV (fD (uponL c (rowS c r).1 (dF c d)))) (sV (nI (leftL c (rowS c r).1 (dF c d)))) (fun x hx => h x (List.mem_cons_of_mem _ hx)) (by rw [List.length_append]; show acc.length + 1 + _ ≤ 990; omega)
    refine ⟨f9, f10, f11, f12, ?_⟩
    rw [List.append_assoc] at q
    exact (forD_nx (env1 := e1) rfl ((seq_nx s1).trans s2)).trans q
theorem out_walk (h1 : 1 ≤ c) (h5 : c ≤ 5) {I F L : D} {l : List Deed} (hl : ∀ d ∈ l, d ∈ full c) : ∀ (rs : List (List Deed)) (acc : List D) (d6 d7 d8 d9 d10 d11 d12 : Option Slot), (∀ r ∈ rs, r.length ≤ 40) → acc.length + rs.length * l.length ≤ 990 →
    ∃ f6 f7 f8 f9 f10 f11 f12, forD tg678 (sForS (eVar 4) tg910 bIn56) (rs.map (pthD c)) (thE c I F L (.list (l.map (smD c))) acc d6 d7 d8 d9 d10 d11 d12) = .ret (.nx (thE c I F L (.list (l.map (smD c))) (acc ++ (growF rs l).map (pthD c)) f6 f7 f8 f9 f10 f11 f12))
  | [], acc, d6, d7, d8, d9, d10, d11, d12, _, _ => ⟨d6, d7, d8, d9, d10, d11, d12, by
      have e : acc ++ (growF ([] : List (List Deed)) l).map (pthD c) = acc := List.append_nil acc
      rw [e]
      rfl⟩
  | r :: rs, acc, d6, d7, d8, d9, d10, d11, d12, h, few => by
    rw [List.length_cons, Nat.succ_mul] at few
    obtain ⟨g9, g10, g11, g12, q1⟩ := in_walk h1 h5 (I := I) (F := F) (L := L) (S := .list (l.map (smD c))) (h r List.mem_cons_self) l acc d9 d10 d11 d12 hl (by omega)
    obtain ⟨f6, f7, f8, f9, f10, f11, f12, q⟩ := out_walk h1 h5 (I := I) (F := F) (L := L) hl rs (acc ++ l.map fun d => pthD c (r ++ [d])) (sV (rowD r)) (sV (.tuple (scF c (stL c, 0) r))) (sV (nI (rowS c r).2)) g9 g10 g11 g12 (fun x hx => h x (List.mem_cons_of_mem _ hx)) (by rw [List.length_append, List.length_map]; omega)
    refine ⟨f6, f7, f8, f9, f10, f11, f12, ?_⟩
    have e : (growF (r :: rs) l).map (pthD c) = (l.map fun d => pthD c (r ++ [d])) ++ (growF rs l).map (pthD c) := by
      unfold growF
      rw [List.flatMap_cons, List.map_append, List.map_map]
      rfl
    rw [e, ← List.append_assoc]
    exact (forD_nx (env1 := thE c I F L (.list (l.map (smD c))) acc (sV (rowD r)) (sV (.tuple (scF c (stL c, 0) r))) (sV (nI (rowS c r).2)) d9 d10 d11 d12) rfl ((forS_l (ds := l.map (smD c)) rfl).trans q1)).trans q
def phE (c : Nat) (I F : D) (d3 d4 d5 d6 d7 d8 d9 d10 d11 d12 : Option Slot) : Ev := [sV (nI c), sV I, sV F, d3, d4, d5, d6, d7, d8, d9, d10, d11, d12]
abbrev bPath : FS := (sSeq (sPar false true 4 5 (eCompS (eVar 3) (gN 9) fYes (eTup (lCons (eVar 9) (lCons (eCall m_law_deed (aVal (eVar 0) (aVal (eVar 9) aNil))) lNil))) [9]) (eLst lNil)) (sSeq (sForS (eVar 2) tg678 (sForS (eVar 4) tg910 bIn56)) (fun env => (sSet 2 (eVar 5)) (frz 5 env))))
theorem path_step (h1 : 1 ≤ c) (h5 : c ≤ 5) {I : D} {rs : List (List Deed)} {l : List Deed} {d4 d5 d6 d7 d8 d9 d10 d11 d12 : Option Slot} (hl : ∀ d ∈ l, d ∈ full c) (few : l.length ≤ 20) (hr : ∀ r ∈ rs, r.length ≤ 40) (sz : rs.length * l.length ≤ 990) :
    ∃ f4 f5 f6 f7 f8 f9 f10 f11 f12, bPath (phE c I (.list (rs.map (pthD c))) (sV (rowD l)) d4 d5 d6 d7 d8 d9 d10 d11 d12) = .ret (.nx (phE c I (.list ((growF rs l).map (pthD c))) (sV (rowD l)) f4 f5 f6 f7 f8 f9 f10 f11 f12)) := by
  let F : D := .list (rs.map (pthD c))
  have cp : eCompS (eVar 3) (gN 9) fYes (eTup (lCons (eVar 9) (lCons (eCall m_law_deed (aVal (eVar 0) (aVal (eVar 9) aNil))) lNil))) [9] (phE c I F (sV (rowD l)) d4 d5 d6 d7 d8 d9 d10 d11 d12) = .ret (.list (l.map (smD c))) := by
    rw [compS_any (d := rowD l) (ds := l.map dD) rfl rfl]
    unfold endComp
    rw [if_pos (by rw [List.length_map]; exact small_len (by omega)), comp_all (g := smD c) l fun d hd => ?_]
    · rfl
    · exact ⟨phE c I F (sV (rowD l)) d4 d5 d6 d7 d8 (sV (dD d)) d10 d11 d12, rfl, rfl, tup2 (x := dD d) rfl (call_r (aC (d := nI c) rfl (a1 (d := dD d) rfl)) (deed_ok h1 h5 (hl d hd)).law)⟩
  have s1 : sPar false true 4 5 (eCompS (eVar 3) (gN 9) fYes (eTup (lCons (eVar 9) (lCons (eCall m_law_deed (aVal (eVar 0) (aVal (eVar 9) aNil))) lNil))) [9]) (eLst lNil) (phE c I F (sV (rowD l)) d4 d5 d6 d7 d8 d9 d10 d11 d12) = .ret (.nx (thE c I F (rowD l) (.list (l.map (smD c))) [] d6 d7 d8 d9 d10 d11 d12)) := by
    unfold sPar
    rw [cp, bret]
    rfl
  obtain ⟨f6, f7, f8, f9, f10, f11, f12, q⟩ := out_walk h1 h5 (I := I) (F := F) (L := rowD l) hl rs [] d6 d7 d8 d9 d10 d11 d12 hr (by show 0 + _ ≤ 990; omega)
  refine ⟨sV (.list (l.map (smD c))), some (.val (.list ((growF rs l).map (pthD c)))), f6, f7, f8, f9, f10, f11, f12, ?_⟩
  have s2 : sForS (eVar 2) tg678 (sForS (eVar 4) tg910 bIn56) (thE c I F (rowD l) (.list (l.map (smD c))) [] d6 d7 d8 d9 d10 d11 d12) = .ret (.nx (thE c I F (rowD l) (.list (l.map (smD c))) ((growF rs l).map (pthD c)) f6 f7 f8 f9 f10 f11 f12)) := (forS_l (ds := rs.map (pthD c)) rfl).trans q
  exact (seq_nx s1).trans ((seq_nx s2).trans rfl)
theorem path_walk (h1 : 1 ≤ c) (h5 : c ≤ 5) {I : D} : ∀ (ls : List (List Deed)) (rs : List (List Deed)) (n : Nat) (d3 d4 d5 d6 d7 d8 d9 d10 d11 d12 : Option Slot), (∀ l ∈ ls, LotOk c l) → (∀ r ∈ rs, r.length = n) → n + ls.length ≤ 40 → ls.foldl (fun t l => t * l.length) rs.length ≤ 990 →
    ∃ f3 f4 f5 f6 f7 f8 f9 f10 f11 f12, forD (gN 3) bPath (ls.map rowD) (phE c I (.list (rs.map (pthD c))) d3 d4 d5 d6 d7 d8 d9 d10 d11 d12) = .ret (.nx (phE c I (.list ((ls.foldl growF rs).map (pthD c))) f3 f4 f5 f6 f7 f8 f9 f10 f11 f12))
  | [], rs, n, d3, d4, d5, d6, d7, d8, d9, d10, d11, d12, _, _, _, _ => ⟨d3, d4, d5, d6, d7, d8, d9, d10, d11, d12, rfl⟩
  | l :: ls, rs, n, d3, d4, d5, d6, d7, d8, d9, d10, d11, d12, h, hn, hl, sz => by
    have lo := h l List.mem_cons_self
    rw [List.length_cons] at hl
    have grow : (growF rs l).length = rs.length * l.length := by
      unfold growF
      exact FM.flat_len _ fun x _ => List.length_map ..
    have up : ∀ (ls : List (List Deed)) (t : Nat), (∀ l ∈ ls, LotOk c l) → t ≤ ls.foldl (fun t l => t * l.length) t := fun ls => by
      induction ls with
      | nil => exact fun t _ => Nat.le_refl _
      | cons x ls ih =>
        intro t hx
        have p := (hx x List.mem_cons_self).pos
        exact Nat.le_trans (Nat.le_mul_of_pos_right t p) (ih (t * x.length) fun y hy => hx y (List.mem_cons_of_mem _ hy))
    have sz : ls.foldl (fun t l => t * l.length) (rs.length * l.length) ≤ 990 := sz
    have here := Nat.le_trans (up ls (rs.length * l.length) fun y hy => h y (List.mem_cons_of_mem _ hy)) sz
    obtain ⟨g4, g5, g6, g7, g8, g9, g10, g11, g12, q1⟩ := path_step h1 h5 (I := I) (rs := rs) (d4 := d4) (d5 := d5) (d6 := d6) (d7 := d7) (d8 := d8) (d9 := d9) (d10 := d10) (d11 := d11) (d12 := d12) lo.mem (lo.few h5) (fun r hr => by rw [hn r hr]; omega) here
    obtain ⟨f3, f4, f5, f6, f7, f8, f9, f10, f11, f12, q⟩ := path_walk h1 h5 (I := I) ls (growF rs l) (n + 1) (sV (rowD l)) g4 g5 g6 g7 g8 g9 g10 g11 g12 (fun y hy => h y (List.mem_cons_of_mem _ hy)) (fun r hr => by
      obtain ⟨s, hs, hr⟩ := List.mem_flatMap.mp hr
      obtain ⟨d, _, rfl⟩ := List.mem_map.mp hr
      rw [List.length_append, hn s hs]
      rfl) (by omega) (by rw [grow]; exact sz)
    exact ⟨f3, f4, f5, f6, f7, f8, f9, f10, f11, f12, (forD_nx (env1 := phE c I (.list (rs.map (pthD c))) (sV (rowD l)) d4 d5 d6 d7 d8 d9 d10 d11 d12) rfl q1).trans q⟩
theorem v_paths (h1 : 1 ≤ c) (h5 : c ≤ 5) (h : GapOk c its) (sz : manyF (lotsG c its) ≤ 990) : m_law_paths [.val (nI c), .val (gapD its)] = .ret (.list ((rowsF (lotsG c its)).map (pthD c))) := by
  have st := (v_straight h1 h5).2
  obtain ⟨f3, f4, f5, f6, f7, f8, f9, f10, f11, f12, q⟩ := path_walk h1 h5 (I := gapD its) (lotsG c its) [[]] 0 none none none none none none none none none none (lots_ok h1 h5 h) (fun r hr => by rw [List.mem_singleton.mp hr]; rfl) (by rw [lots_len]; have := h.len; omega) sz
  have s0 : sSet 2 (eLst (lCons (eTup (lCons (eTup lNil) (lCons (eTup (lCons (eCall m_law_straight (aVal (eVar 0) aNil)) lNil)) (lCons (eC (.int 0)) lNil)))) lNil)) (startE 13 [.val (nI c), .val (gapD its)]) = .ret (.nx (phE c (gapD its) (.list ([[]].map (pthD c))) none none none none none none none none none none)) :=
    set_nx (lst1 (tup3b (x := rowD []) (y := .tuple (scF c (stL c, 0) [])) (z := nI (rowS c []).2) rfl (tup1 (call_r (a1 (d := nI c) rfl) st)) rfl))
  have s1 : sForS (eCall m_law_lots56 (aVal (eVar 0) (aVal (eVar 1) aNil))) (gN 3) bPath (phE c (gapD its) (.list ([[]].map (pthD c))) none none none none none none none none none none) = .ret (.nx (phE c (gapD its) (.list ((rowsF (lotsG c its)).map (pthD c))) f3 f4 f5 f6 f7 f8 f9 f10 f11 f12)) :=
    (forS_l (call_r (aC (d := nI c) rfl (a1 (d := gapD its) rfl)) (v_llots h1 h5 h.len))).trans q
  unfold m_law_paths
  exact fn_v ((seq_nx s0).trans ((seq_nx s1).trans (ret_rv rfl)))
end
end FL
end
section
set_option linter.all false
set_option maxRecDepth 100000
namespace FL
open PySem PySem.Spec PyProof.Rows L2 DL FM ZS
abbrev q56_0 : FS := (sSet 3 (eCompS (eCall m_law_paths (aVal (eVar 1) (aVal (eVar 2) aNil))) (gN 7) fYes (e2 dIx (eVar 7) (eC (.int 0))) [7]))
abbrev q56_1 : FS := (sIf (bNot (tt (eCall m_law_like (aVal (eCompR (lCons (eCB dLenA (lCons (eVar 3) lNil)) lNil) (gN 5) fYes (eCall m_filling_at (aVal (eVar 1) (aVal (eVar 2) (aVal (eVar 5) aNil)))) [5]) (aVal (eVar 3) aNil))))) (sRet (eC (.bool false))) sNext)
abbrev q56_2 : FS := (sSetO 4 (eCompS (eVar 3) (gN 7) fYes (eCall m_number_of_filling (aVal (eVar 1) (aVal (eVar 2) (aVal (eVar 7) aNil)))) [7]))
abbrev q56_3 : FS := (sIf (bOr (bNot (tt (eCall m_law_like (aVal (eVar 4) (aVal (eRgL (lCons (eCB dLenA (lCons (eVar 3) lNil)) lNil)) aNil))))) (tt (e2 dNe (eVar 3) (eCB dSortB (lCons (eVar 3) lNil))))) (sRet (eC (.bool false))) sNext)
abbrev q56_4 : FS := (sSet 5 (eCall m_law_draw (aOrc 0 (aVal (eCB dLenA (lCons (eVar 3) lNil)) aNil))))
abbrev q56_5 : FS := (sSetO 4 (eLst (lCons (eCall m_many_fillings (aVal (eVar 1) (aVal (eVar 2) aNil))) (lCons (eCall m_many_fillings (aReo 2 [1, 0] (aVal (eVar 2) (aVal (eVar 1) aNil)))) lNil))))
abbrev q56_6 : FS := (sApp 4 (eCall m_filling_at (aReo 3 [2, 1, 0] (aVal (eVar 5) (aVal (eVar 2) (aVal (eVar 1) aNil))))))
abbrev q56_7 : FS := (sApp 4 (eCall m_number_of_filling (aReo 3 [2, 1, 0] (aVal (e2 dIx (eVar 3) (eVar 5)) (aVal (eVar 2) (aVal (eVar 1) aNil))))))
abbrev q56_8 : FS := (sSetO 4 (e2 dCat (eVarB 4) (eLst (lCons (eCall m_does_fill (aVal (eVar 1) (aVal (eVar 2) (aVal (e2 dIx (eVar 3) (eVar 5)) aNil)))) (lCons (eCall m_need_gapped (aVal (eVar 1) (aVal (eVar 2) aNil))) lNil)))))
abbrev q56_9 : FS := (sIf (bNot (tt (eCall m_law_like (aVal (eVar 4) (aVal (e2 dAddA (e2 dRep (eLst (lCons (eCB dLenA (lCons (eVar 3) lNil)) lNil)) (eC (.int 2))) (eLst (lCons (e2 dIx (eVar 3) (eVar 5)) (lCons (eVar 5) (lCons (eC (.bool true)) (lCons (eVar 2) lNil)))))) aNil))))) (sRet (eC (.bool false))) sNext)
abbrev q56_10 : FS := (sSet 6 (eCall m_law_row (aOrc 0 (aVal (eVar 1) (aVal (eTup (lCons (eC (.str "cut")) (lCons (eC (.str "hook")) (lCons (eC (.str "join")) (lCons (eC (.str "swap")) lNil))))) (aVal (e2 dAddA (eCB dLenA (lCons (eVar 2) lNil)) (eC (.int 1))) aNil))))))
abbrev q56_11 : FS := (sSetO 4 (eLst (lCons (eCall m_does_fill (aReo 3 [2, 1, 0] (aVal (eVar 6) (aVal (eVar 2) (aVal (eVar 1) aNil))))) (lCons (eCall m_number_of_filling (aVal (eVar 1) (aVal (eVar 2) (aVal (eVar 6) aNil)))) lNil))))
abbrev q56_12 : FS := (sRet (eCall m_law_like (aVal (eVar 4) (aVal (eLst (lCons (e2 (dInA false) (eVar 6) (eVar 3)) (lCons (eIf (tt (e2 (dInA false) (eVar 6) (eVar 3))) (eIdxA (eVar 3) (eVar 6)) (eC .none)) lNil))) aNil))))
abbrev q56__t12 : FS := q56_12
abbrev q56__t9 : FS := sSeq q56_9 (sSeq q56_10 (sSeq q56_11 (fun env => q56__t12 (frz 4 env))))
abbrev q56__t3 : FS := sSeq q56_3 (sSeq q56_4 (sSeq q56_5 (sSeq q56_6 (sSeq q56_7 (sSeq q56_8 (fun env => q56__t9 (frz 4 env)))))))
section
variable {c : Nat} {l : List Deed} {its : List (Option (List Deed))} {ds r : List Deed}
theorem ne_self {x : D} (h : SeqAt.shaped x = true) : dNe x x = some (.bool false) := by
  unfold dNe
  rw [if_pos ⟨h, h⟩, PySem.SeqAt.eqv_refl x (SeqAt.canLay_of_shaped h)]
  rfl
theorem shaped_rows (L : List (List Deed)) : SeqAt.shaped (lsD L) = true := by
  unfold SeqAt.shaped
  rw [Bool.and_eq_true]
  have a : ∀ L : List (List Deed), PyData.canLayAll0 (L.map rowD) = true := fun L => by
    induction L with
    | nil => rfl
    | cons r L ih =>
      show ((rowD r).canLay0 && PyData.canLayAll0 (L.map rowD)) = true
      rw [show (rowD r).canLay0 = true from can_rowD r, ih]
      rfl
  have b : ∀ L : List (List Deed), PyData.depthAll (L.map rowD) ≤ 2 := fun L => by
    induction L with
    | nil => exact Nat.zero_le _
    | cons r L ih =>
      show max (PyData.depthAll (r.map dD) + 1) (PyData.depthAll (L.map rowD)) ≤ 2
      have := dep_row r
      exact Nat.max_le.mpr ⟨by omega, ih⟩
  refine ⟨a L, decide_eq_true ?_⟩
  show PyData.depthAll (L.map rowD) + 1 ≤ 64
  have := b L
  omega
theorem sh_it (h1 : 1 ≤ c) (h5 : c ≤ 5) (h : GapOk c its) {it : Option (List Deed)} (m : it ∈ its) : Sh (itD it) 2 423 := by
  cases it with
  | none => exact sh_none.mono (by decide) (by decide)
  | some l =>
    have lo := h.lot l m
    exact (sh_rowD (n := 20) (fun d hd => five_of h1 h5 (lo.mem d hd)) (lo.few h5)).mono (Nat.le_refl _) (by decide)
theorem sh_gap (h1 : 1 ≤ c) (h5 : c ≤ 5) (h : GapOk c its) : Sh (gapD its) 3 5103 :=
  (Sh.tuple (xs := its.map itD) (k := 2) (w := 423) (n := 12) (fun x hx => by
    obtain ⟨it, hi, rfl⟩ := List.mem_map.mp hx
    exact sh_it h1 h5 h hi) (by rw [List.length_map]; exact h.len)).mono (Nat.le_refl _) (by decide)
/-- a gapped row of few fillings -/
structure FewG (c : Nat) (its : List (Option (List Deed))) : Prop where
  g : GapOk c its
  sz : manyF (lotsG c its) ≤ 150
  ln : its.length ≤ 5
variable (h1 : 1 ≤ c) (h5 : c ≤ 5) (F : FewG c its)
include h1 h5 F
theorem FewG.rows : (∀ r ∈ rowsF (lotsG c its), FilF (lotsG c its) r ∧ Ds c r ∧ (∀ d ∈ r, d ∈ full 5) ∧ r.length = its.length) ∧ (rowsF (lotsG c its)).length = manyF (lotsG c its) ∧ 1 ≤ manyF (lotsG c its) ∧ ∀ l ∈ lotsG c its, l.Nodup := by
  have lo := lots_ok h1 h5 F.g
  refine ⟨fun r hr => ?_, rowsF_len _, ?_, fun l hl => (lo l hl).nodup⟩
  · have f := rows_fil hr
    have d : Ds c r := fun d hd => by
      obtain ⟨i, hi, rfl⟩ := List.getElem_of_mem hd
      have hz : i < (r.zip (lotsG c its)).length := by rw [List.length_zip, ← f.1]; omega
      have m := f.2 _ (List.getElem_mem hz)
      rw [List.getElem_zip] at m
      exact (lo _ (List.getElem_mem _)).mem _ m
    exact ⟨f, d, fun x hx => five_of h1 h5 (d x hx), by rw [f.1, lots_len]⟩
  · have up : ∀ (ls : List (List Deed)) (t : Nat), (∀ l ∈ ls, LotOk c l) → t ≤ ls.foldl (fun t l => t * l.length) t := fun ls => by
      induction ls with
      | nil => exact fun t _ => Nat.le_refl _
      | cons x ls ih =>
        intro t hx
        have p := (hx x List.mem_cons_self).pos
        exact Nat.le_trans (Nat.le_mul_of_pos_right t p) (ih (t * x.length) fun y hy => hx y (List.mem_cons_of_mem _ hy))
    exact up _ 1 lo
theorem FewG.shL : Sh (lsD (rowsF (lotsG c its))) 3 40000 := by
  obtain ⟨a, b, _, _⟩ := F.rows h1 h5
  exact (Sh.list (xs := (rowsF (lotsG c its)).map rowD) (k := 2) (w := 255) (n := 150) (fun x hx => by
    obtain ⟨r, hr, rfl⟩ := List.mem_map.mp hx
    have := F.ln
    exact (sh_rowD (n := 12) (a r hr).2.2.1 (by rw [(a r hr).2.2.2]; omega)).mono (Nat.le_refl _) (Nat.le_refl _)) (by rw [List.length_map, b]; exact F.sz)).mono (Nat.le_refl _) (by decide)
def q6E (c : Nat) (I R : D) (d4 d5 d6 d7 : Option Slot) : Ev := [some .orc, sV (nI c), sV I, sV R, d4, d5, d6, d7]
theorem q0_ok : q56_0 (startE 8 [.orc, .val (nI c), .val (gapD its)]) = .ret (.nx (q6E c (gapD its) (lsD (rowsF (lotsG c its))) none none none none)) := by
  obtain ⟨a, b, _, _⟩ := F.rows h1 h5
  have sz := F.sz
  refine set_nx (d := lsD (rowsF (lotsG c its))) ?_
  rw [compS_any (d := .list ((rowsF (lotsG c its)).map (pthD c))) (ds := (rowsF (lotsG c its)).map (pthD c)) (call_r (aC (d := nI c) rfl (a1 (d := gapD its) rfl)) (v_paths h1 h5 F.g (by omega))) rfl]
  unfold endComp
  rw [if_pos (by rw [List.length_map, b]; exact small_len (by omega)), comp_all (g := rowD) (rowsF (lotsG c its)) fun r hr => ?_]
  · rfl
  · exact ⟨[some .orc, sV (nI c), sV (gapD its), none, none, none, none, sV (pthD c r)], rfl, rfl, e2_r (x := pthD c r) (y := nI 0) rfl rfl rfl⟩
theorem q1_ok {d4 d5 d6 d7 : Option Slot} : q56_1 (q6E c (gapD its) (lsD (rowsF (lotsG c its))) d4 d5 d6 d7) = .ret (.nx (q6E c (gapD its) (lsD (rowsF (lotsG c its))) d4 d5 d6 d7)) := by
  obtain ⟨a, b, _, _⟩ := F.rows h1 h5
  have sz := F.sz
  let E := q6E c (gapD its) (lsD (rowsF (lotsG c its))) d4 d5 d6 d7
  let L := rowsF (lotsG c its)
  have ln : eCB dLenA (lCons (eVar 3) lNil) E = .ret (nI L.length) := cb_r (lc1 (d := lsD L) rfl) (by
    show some (nI (L.map rowD).length) = _
    rw [List.length_map])
  have cp : eCompR (lCons (eCB dLenA (lCons (eVar 3) lNil)) lNil) (gN 5) fYes (eCall m_filling_at (aVal (eVar 1) (aVal (eVar 2) (aVal (eVar 5) aNil)))) [5] E = .ret (lsD L) := by
    rw [compR_eq (lo := 0) (n := L.length) (lc1 ln) (rngOf_n (by rw [b]; omega))]
    unfold endComp
    rw [rng_n, if_pos (by rw [List.length_map, List.length_range]; exact small_len (by rw [b]; omega)), comp_all (g := fun i => rowD (L.getD i [])) (List.range L.length) fun i hi => ?_]
    · show Tr.ret (PyData.list _) = Tr.ret (PyData.list _)
      refine congrArg (fun x => Tr.ret (PyData.list x)) (List.ext_getElem (by rw [List.length_map, List.length_map, List.length_range]) fun i g1 g2 => ?_)
      rw [List.length_map] at g2
      rw [List.getElem_map, List.getElem_map, List.getElem_range, List.getD_eq_getElem?_getD, List.getElem?_eq_getElem g2]
      rfl
    · have lt := List.mem_range.mp hi
      have g : L[i]? = some (L.getD i []) := by rw [List.getD_eq_getElem?_getD, List.getElem?_eq_getElem lt]; rfl
      exact ⟨q6E c (gapD its) (lsD L) d4 (sV (nI i)) d6 d7, rfl, rfl, call_r (aC (d := nI c) rfl (aC (d := gapD its) rfl (a1 (d := nI i) rfl))) (v_at h1 h5 F.g g)⟩
  exact (if_no (not_b (tt_b (call_r (aC cp (a1 (d := lsD L) rfl)) (v_likeW (F.shL h1 h5) (by decide) (by decide) rfl))))).trans rfl
end
end FL
end
section
set_option linter.all false
set_option maxRecDepth 100000
namespace FL
open PySem PySem.Spec PyProof.Rows L2 DL FM ZS
section
variable {c : Nat} {l : List Deed} {its : List (Option (List Deed))} {ds r : List Deed}
theorem ix_rows {L : List (List Deed)} {n : Nat} (h : L[n]? = some r) : dIx (lsD L) (nI n) = some (rowD r) := by
  have g : (L.map rowD)[n]? = some (rowD r) := by rw [List.getElem?_map, h]; rfl
  have lt := (List.getElem?_eq_some_iff.mp g).1
  show atI (L.map rowD) (n : Int) = _
  unfold atI ixN
  rw [if_pos (by omega), if_pos (by omega)]
  exact g
theorem len_rows {i : Nat} {env : Ev} {L : List (List Deed)} (h : eVar i env = .ret (lsD L)) : eCB dLenA (lCons (eVar i) lNil) env = .ret (nI L.length) := cb_r (lc1 h) (by
  show some (nI (L.map rowD).length) = _
  rw [List.length_map])
theorem call3R {F : List Slot → Tr D} {fa fb fc : FE} {env : Ev} {x y z : D} {t : Tr D} (ha : fa env = .ret x) (hb : fb env = .ret y) (hc : fc env = .ret z) (h : F [.val z, .val y, .val x] = t) : eCall F (aReo 3 [2, 1, 0] (aVal fa (aVal fb (aVal fc aNil)))) env = t :=
  call_r (aR (aC ha (aC hb (a1 hc)))) h
theorem call2R {F : List Slot → Tr D} {fa fb : FE} {env : Ev} {x y : D} {t : Tr D} (ha : fa env = .ret x) (hb : fb env = .ret y) (h : F [.val y, .val x] = t) : eCall F (aReo 2 [1, 0] (aVal fa (aVal fb aNil))) env = t :=
  call_r (aR (aC ha (a1 hb))) h
variable (h1 : 1 ≤ c) (h5 : c ≤ 5) (F : FewG c its)
include h1 h5 F
theorem nums_are : (rowsF (lotsG c its)).map (fun r => nI (numF (lotsG c its) r)) = nL (List.range (manyF (lotsG c its))) := by
  obtain ⟨a, b, _, nd⟩ := F.rows h1 h5
  show (rowsF (lotsG c its)).map (fun r => nI (numF (lotsG c its) r)) = (List.range (manyF (lotsG c its))).map nI
  refine List.ext_getElem (by rw [List.length_map, List.length_map, List.length_range, b]) fun i g1 g2 => ?_
  rw [List.length_map] at g1
  rw [List.getElem_map, List.getElem_map, List.getElem_range]
  rw [num_at nd (List.getElem?_eq_getElem g1)]
theorem q2_ok {d4 d5 d6 d7 : Option Slot} : q56_2 (q6E c (gapD its) (lsD (rowsF (lotsG c its))) d4 d5 d6 d7) = .ret (.nx (q6E c (gapD its) (lsD (rowsF (lotsG c its))) (some (.own (lD (List.range (manyF (lotsG c its)))))) d5 d6 d7)) := by
  obtain ⟨a, b, _, _⟩ := F.rows h1 h5
  have sz := F.sz
  let L := rowsF (lotsG c its)
  let E := q6E c (gapD its) (lsD L) d4 d5 d6 d7
  have cp : eCompS (eVar 3) (gN 7) fYes (eCall m_number_of_filling (aVal (eVar 1) (aVal (eVar 2) (aVal (eVar 7) aNil)))) [7] E = .ret (lD (List.range (manyF (lotsG c its)))) := by
    rw [compS_any (d := lsD L) (ds := L.map rowD) rfl rfl]
    unfold endComp
    rw [if_pos (by rw [List.length_map, b]; exact small_len (by omega)), comp_all (g := fun r => nI (numF (lotsG c its) r)) L fun r hr => ?_]
    · show Tr.ret (PyData.list (L.map fun r => nI (numF (lotsG c its) r))) = _
      rw [nums_are h1 h5 F]
    · obtain ⟨f, d, _, n⟩ := a r hr
      have q := v_num h1 h5 F.g (by have := F.ln; omega) d
      rw [if_pos f] at q
      exact ⟨q6E c (gapD its) (lsD L) d4 d5 d6 (sV (rowD r)), rfl, rfl, call_r (aC (d := nI c) rfl (aC (d := gapD its) rfl (a1 (d := rowD r) rfl))) q⟩
  show sSetO 4 _ E = _
  unfold sSetO
  rw [cp]
  rfl
theorem sorted_are : dSortB [lsD (rowsF (lotsG c its))] = some (lsD (rowsF (lotsG c its))) := by
  obtain ⟨a, b, _, _⟩ := F.rows h1 h5
  have sz := F.sz
  refine sort_rows (n := its.length) (by omega) (fun r hr => (a r hr).2.2.1) (fun r hr => (a r hr).2.2.2) (rows_lex fun l hl => (lots_ok h1 h5 F.g l hl).asc) fun z => ?_
  have e : its = [] := List.length_eq_zero_iff.mp z
  subst e
  rfl
theorem q3_ok {d5 d6 d7 : Option Slot} : q56_3 (q6E c (gapD its) (lsD (rowsF (lotsG c its))) (sV (lD (List.range (manyF (lotsG c its))))) d5 d6 d7) = .ret (.nx (q6E c (gapD its) (lsD (rowsF (lotsG c its))) (sV (lD (List.range (manyF (lotsG c its))))) d5 d6 d7)) := by
  obtain ⟨a, b, _, _⟩ := F.rows h1 h5
  have sz := F.sz
  let L := rowsF (lotsG c its)
  let E := q6E c (gapD its) (lsD L) (sV (lD (List.range (manyF (lotsG c its))))) d5 d6 d7
  have rg : eRgL (lCons (eCB dLenA (lCons (eVar 3) lNil)) lNil) E = .ret (lD (List.range (manyF (lotsG c its)))) := by
    rw [rgL_n (len_rows (L := L) rfl) (by rw [b]; omega), b]
  have sh : Sh (lD (List.range (manyF (lotsG c its)))) 1 752 := (Sh.list (k := 0) (w := 3) (n := 150) (fun x hx => by
    obtain ⟨i, hi, rfl⟩ := List.mem_map.mp hx
    have := List.mem_range.mp hi
    exact Sh.int (by omega)) (by rw [nL_len, List.length_range]; exact sz)).mono (by decide) (by decide)
  refine (if_no ?_).trans rfl
  refine (or_no (not_b (tt_b (call_r (aC (d := lD (List.range (manyF (lotsG c its)))) rfl (a1 rg)) (v_likeW sh (by decide) (by decide) rfl))))).trans ?_
  exact tt_b (e2_r (x := lsD L) rfl (cb_r (lc1 (d := lsD L) rfl) (sorted_are h1 h5 F)) (ne_self (shaped_rows L)))
variable {at_ : Nat} {r : List Deed} (hr : (rowsF (lotsG c its))[at_]? = some r)
include hr
theorem q5_ok {d4 d6 d7 : Option Slot} : sSeq q56_5 (sSeq q56_6 (sSeq q56_7 (sSeq q56_8 (fun env => q56__t9 (frz 4 env))))) (q6E c (gapD its) (lsD (rowsF (lotsG c its))) d4 (sV (nI at_)) d6 d7) = q56__t9 (q6E c (gapD its) (lsD (rowsF (lotsG c its))) (sV (.list [nI (manyF (lotsG c its)), nI (manyF (lotsG c its)), rowD r, nI at_, .bool true, gapD its])) (sV (nI at_)) d6 d7) := by
  obtain ⟨a, b, _, nd⟩ := F.rows h1 h5
  obtain ⟨f, d, _, n⟩ := a r (List.mem_of_getElem? hr)
  let M := manyF (lotsG c its)
  let E : D → Ev := fun x => q6E c (gapD its) (lsD (rowsF (lotsG c its))) (some (.own x)) (sV (nI at_)) d6 d7
  have nm := v_num h1 h5 F.g (by have := F.ln; omega) d
  rw [if_pos f, num_at nd hr] at nm
  have ds := v_does h1 h5 F.g (by have := F.ln; omega) d
  rw [decide_eq_true f] at ds
  have s5 : q56_5 (q6E c (gapD its) (lsD (rowsF (lotsG c its))) d4 (sV (nI at_)) d6 d7) = .ret (.nx (E (.list [nI M, nI M]))) := by
    show sSetO 4 _ _ = _
    unfold sSetO
    rw [lst2 (call_r (aC (d := nI c) rfl (a1 (d := gapD its) rfl)) (v_many h1 h5 F.g)) (call2R (x := gapD its) (y := nI c) rfl rfl (v_many h1 h5 F.g))]
    rfl
  have s6 : q56_6 (E (.list [nI M, nI M])) = .ret (.nx (E (.list [nI M, nI M, rowD r]))) := (sApp_n (ds := [nI M, nI M]) (z := rowD r) rfl (call3R (x := nI at_) (y := gapD its) (z := nI c) rfl rfl rfl (v_at h1 h5 F.g hr)) (show 2 < 1000 by decide)).trans rfl
  have s7 : q56_7 (E (.list [nI M, nI M, rowD r])) = .ret (.nx (E (.list [nI M, nI M, rowD r, nI at_]))) := (sApp_n (ds := [nI M, nI M, rowD r]) (z := nI at_) rfl (call3R (x := rowD r) (y := gapD its) (z := nI c) (e2_r (x := lsD (rowsF (lotsG c its))) (y := nI at_) rfl rfl (ix_rows hr)) rfl rfl nm) (show 3 < 1000 by decide)).trans rfl
  have s8 : q56_8 (E (.list [nI M, nI M, rowD r, nI at_])) = .ret (.nx (E (.list [nI M, nI M, rowD r, nI at_, .bool true, gapD its]))) := by
    have l2 : eLst (lCons (eCall m_does_fill (aVal (eVar 1) (aVal (eVar 2) (aVal (e2 dIx (eVar 3) (eVar 5)) aNil)))) (lCons (eCall m_need_gapped (aVal (eVar 1) (aVal (eVar 2) aNil))) lNil)) (E (.list [nI M, nI M, rowD r, nI at_])) = .ret (.list [.bool true, gapD its]) :=
      lst2 (call_r (aC (d := nI c) rfl (aC (d := gapD its) rfl (a1 (e2_r (x := lsD (rowsF (lotsG c its))) (y := nI at_) rfl rfl (ix_rows hr))))) ds) (call_r (aC (d := nI c) rfl (a1 (d := gapD its) rfl)) (v_need_gapped h1 h5 F.g))
    have cat : e2 dCat (eVarB 4) (eLst (lCons (eCall m_does_fill (aVal (eVar 1) (aVal (eVar 2) (aVal (e2 dIx (eVar 3) (eVar 5)) aNil)))) (lCons (eCall m_need_gapped (aVal (eVar 1) (aVal (eVar 2) aNil))) lNil))) (E (.list [nI M, nI M, rowD r, nI at_])) = .ret (.list [nI M, nI M, rowD r, nI at_, .bool true, gapD its]) :=
      e2_r (x := .list [nI M, nI M, rowD r, nI at_]) rfl l2 rfl
    show sSetO 4 _ _ = _
    unfold sSetO
    rw [cat]
    rfl
  rw [seq_nx s5, seq_nx s6, seq_nx s7, seq_nx s8]
  rfl
theorem q9_ok {d6 d7 : Option Slot} : q56_9 (q6E c (gapD its) (lsD (rowsF (lotsG c its))) (sV (.list [nI (manyF (lotsG c its)), nI (manyF (lotsG c its)), rowD r, nI at_, .bool true, gapD its])) (sV (nI at_)) d6 d7) = .ret (.nx (q6E c (gapD its) (lsD (rowsF (lotsG c its))) (sV (.list [nI (manyF (lotsG c its)), nI (manyF (lotsG c its)), rowD r, nI at_, .bool true, gapD its])) (sV (nI at_)) d6 d7)) := by
  obtain ⟨a, b, _, nd⟩ := F.rows h1 h5
  obtain ⟨f, d, h5', n⟩ := a r (List.mem_of_getElem? hr)
  have sz := F.sz
  have lt := (List.getElem?_eq_some_iff.mp hr).1
  let M := manyF (lotsG c its)
  let T : D := .list [nI M, nI M, rowD r, nI at_, .bool true, gapD its]
  let E := q6E c (gapD its) (lsD (rowsF (lotsG c its))) (sV T) (sV (nI at_)) d6 d7
  have ln : eCB dLenA (lCons (eVar 3) lNil) E = .ret (nI M) := by rw [len_rows (L := rowsF (lotsG c its)) rfl, b]
  have rp : e2 dRep (eLst (lCons (eCB dLenA (lCons (eVar 3) lNil)) lNil)) (eC (.int 2)) E = .ret (.list [nI M, nI M]) := e2_r (lst1 ln) (y := .int 2) rfl rfl
  have l4 : eLst (lCons (e2 dIx (eVar 3) (eVar 5)) (lCons (eVar 5) (lCons (eC (.bool true)) (lCons (eVar 2) lNil)))) E = .ret (.list [rowD r, nI at_, .bool true, gapD its]) := lst4 (e2_r (x := lsD (rowsF (lotsG c its))) (y := nI at_) rfl rfl (ix_rows hr)) rfl rfl rfl
  have due : e2 dAddA (e2 dRep (eLst (lCons (eCB dLenA (lCons (eVar 3) lNil)) lNil)) (eC (.int 2))) (eLst (lCons (e2 dIx (eVar 3) (eVar 5)) (lCons (eVar 5) (lCons (eC (.bool true)) (lCons (eVar 2) lNil))))) E = .ret T := e2_r rp l4 (cat_lD (show 2 + 4 ≤ 5000 by decide))
  have sh : Sh T 4 40000 := (Sh.list (k := 3) (w := 5103) (xs := [nI M, nI M, rowD r, nI at_, .bool true, gapD its]) (n := 6) (fun x hx => by
    have m : Sh (nI M) 3 5103 := (Sh.int (show M < 1000 by omega)).mono (by decide) (by decide)
    simp only [List.mem_cons, List.not_mem_nil, or_false] at hx
    rcases hx with rfl | rfl | rfl | rfl | rfl | rfl
    · exact m
    · exact m
    · exact (sh_rowD (n := 12) h5' (by have := F.ln; omega)).mono (by decide) (by decide)
    · exact (Sh.int (by omega)).mono (by decide) (by decide)
    · exact (sh_bool true).mono (by decide) (by decide)
    · exact sh_gap h1 h5 F.g) (Nat.le_refl 6)).mono (by decide) (by decide)
  exact (if_no (not_b (tt_b (call_r (aC (d := T) rfl (a1 due)) (v_likeW sh (by decide) (by decide) rfl))))).trans rfl
omit hr
theorem q11_ok {o : List Deed} {d4 d5 d7 : Option Slot} (ho : o.length ≤ 40) (hd : Ds c o) : sSeq q56_11 (fun env => q56__t12 (frz 4 env)) (q6E c (gapD its) (lsD (rowsF (lotsG c its))) d4 d5 (sV (rowD o)) d7) = .ret (.rv (.bool true)) := by
  obtain ⟨a, b, _, nd⟩ := F.rows h1 h5
  have sz := F.sz
  have o5 : ∀ d ∈ o, d ∈ full 5 := fun x hx => five_of h1 h5 (hd x hx)
  let L := rowsF (lotsG c its)
  let N : D := if FilF (lotsG c its) o then nI (numF (lotsG c its) o) else .none
  let B : D := .bool (decide (FilF (lotsG c its) o))
  let E := q6E c (gapD its) (lsD L) (sV (.list [B, N])) d5 (sV (rowD o)) d7
  have s11 : q56_11 (q6E c (gapD its) (lsD L) d4 d5 (sV (rowD o)) d7) = .ret (.nx (q6E c (gapD its) (lsD L) (some (.own (.list [B, N]))) d5 (sV (rowD o)) d7)) := by
    show sSetO 4 _ _ = _
    unfold sSetO
    rw [lst2 (call3R (x := rowD o) (y := gapD its) (z := nI c) rfl rfl rfl (v_does h1 h5 F.g ho hd)) (call_r (aC (d := nI c) rfl (aC (d := gapD its) rfl (a1 (d := rowD o) rfl))) (v_num h1 h5 F.g ho hd))]
    rfl
  have inn : e2 (dInA false) (eVar 6) (eVar 3) E = .ret (.bool (mbF o L)) := e2_r (x := rowD o) (y := lsD L) rfl rfl (mem_rowL o5 fun s hs => (a s hs).2.2.1)
  have eB : mbF o L = decide (FilF (lotsG c its) o) := by
    rw [Bool.eq_iff_iff, mbF_iff, decide_eq_true_iff]
    exact mem_rows
  have snd : eIf (tt (e2 (dInA false) (eVar 6) (eVar 3))) (eIdxA (eVar 3) (eVar 6)) (eC .none) E = .ret N := by
    by_cases f : FilF (lotsG c its) o
    · have m := mem_rows.mpr f
      refine (eif_yes (tt_b (by rw [inn, mbF_iff.mpr m]))).trans ?_
      show Tr.ofOpt (dIdxA (L.map rowD) (rowD o)) = _
      rw [idx_rowL o5 (fun s hs => (a s hs).2.2.1) m, num_idx f nd]
      show Tr.ret _ = Tr.ret N
      rw [show N = nI (numF (lotsG c its) o) from if_pos f]
    · refine (eif_no (tt_b (by rw [inn, eB, decide_eq_false f]))).trans ?_
      show Tr.ret _ = Tr.ret N
      rw [show N = .none from if_neg f]
  have due : eLst (lCons (e2 (dInA false) (eVar 6) (eVar 3)) (lCons (eIf (tt (e2 (dInA false) (eVar 6) (eVar 3))) (eIdxA (eVar 3) (eVar 6)) (eC .none)) lNil)) E = .ret (.list [B, N]) := lst2 (by rw [inn, eB]) snd
  have shN : Sh N 0 20 := by
    by_cases f : FilF (lotsG c its) o
    · rw [show N = nI (numF (lotsG c its) o) from if_pos f]
      have := (num_lt f).1
      exact (Sh.int (by omega)).mono (Nat.le_refl _) (by decide)
    · rw [show N = .none from if_neg f]
      exact sh_none
  have sh : Sh (.list [B, N]) 1 46 := (Sh.list (k := 0) (w := 20) (xs := [B, N]) (n := 2) (fun x hx => by
    simp only [List.mem_cons, List.not_mem_nil, or_false] at hx
    rcases hx with rfl | rfl
    · exact sh_bool _
    · exact shN) (Nat.le_refl 2)).mono (by decide) (by decide)
  rw [seq_nx s11]
  exact ret_rv (call_r (aC (d := .list [B, N]) rfl (a1 due)) (v_likeW sh (by decide) (by decide) rfl))
end
theorem all56_def : m_law_all_right56 = fnF 8 .v (sSeq q56_0 (sSeq q56_1 (sSeq q56_2 (fun env => q56__t3 (frz 4 env))))) := rfl
theorem ok_all56 {c : Nat} {its : List (Option (List Deed))} (h1 : 1 ≤ c) (h5 : c ≤ 5) (F : FewG c its) : Ok (m_law_all_right56 [.orc, .val (nI c), .val (gapD its)]) 8 fun d => d = .bool true := by
  obtain ⟨a, b, p, nd⟩ := F.rows h1 h5
  have sz := F.sz
  have ln5 := F.ln
  rw [all56_def]
  refine (ok_fn (m := 8) (P := fun d => d = .bool true) ?_).mono (Nat.le_refl _) fun d h => h
  refine ok_eq (seq_nx (q0_ok h1 h5 F)) ?_
  refine ok_eq (seq_nx (q1_ok h1 h5 F)) ?_
  refine ok_eq (seq_nx (q2_ok h1 h5 F)) ?_
  let L := rowsF (lotsG c its)
  let T0 : D := lD (List.range (manyF (lotsG c its)))
  have fz : frz 4 (q6E c (gapD its) (lsD L) (some (.own T0)) none none none) = q6E c (gapD its) (lsD L) (sV T0) none none none := rfl
  show Ok (q56__t3 (frz 4 (q6E c (gapD its) (lsD L) (some (.own T0)) none none none))) 8 _
  rw [fz]
  refine ok_eq (seq_nx (q3_ok h1 h5 F)) ?_
  have dr : Ok (q56_4 (q6E c (gapD its) (lsD L) (sV T0) none none none)) 1 fun o => ∃ e, o = .nx e ∧ ∃ i, i < L.length ∧ e = q6E c (gapD its) (lsD L) (sV T0) (sV (nI i)) none none := by
    refine (ok_set (ok_drawE (i := 0) (l := L.length) rfl (len_rows (L := L) rfl) (by rw [b]; exact p) (by rw [b]; omega))).mono (Nat.le_refl _) ?_
    rintro o ⟨e, eo, d, ⟨i, hi, rfl⟩, ee⟩
    exact ⟨e, eo, i, hi, ee⟩
  refine (ok_seq (n := 1) (m := 7) (P := fun e => ∃ i, i < L.length ∧ e = q6E c (gapD its) (lsD L) (sV T0) (sV (nI i)) none none) dr ?_).mono (by decide) fun _ h => h
  rintro e ⟨i, hi, rfl⟩
  have hr : L[i]? = some L[i] := List.getElem?_eq_getElem hi
  refine ok_eq (q5_ok h1 h5 F hr) ?_
  refine ok_eq (seq_nx (q9_ok h1 h5 F hr)) ?_
  let T : D := .list [nI (manyF (lotsG c its)), nI (manyF (lotsG c its)), rowD L[i], nI i, .bool true, gapD its]
  have row : Ok (q56_10 (q6E c (gapD its) (lsD L) (sV T) (sV (nI i)) none none)) 7 fun o => ∃ e, o = .nx e ∧ ∃ r : List Deed, (r.length ≤ 40 ∧ Ds c r) ∧ e = q6E c (gapD its) (lsD L) (sV T) (sV (nI i)) (sV (rowD r)) none := by
    have lnI : e2 dAddA (eCB dLenA (lCons (eVar 2) lNil)) (eC (.int 1)) (q6E c (gapD its) (lsD L) (sV T) (sV (nI i)) none none) = .ret (nI (its.length + 1)) := by
      refine e2_r (x := nI its.length) (y := nI 1) (cb_r (lc1 (d := gapD its) rfl) ?_) rfl nI_add
      show some (nI (its.map itD).length) = _
      rw [List.length_map]
    refine (ok_set ((ok_callr (aO rfl (aC (d := nI c) rfl (aC words4_r (a1 lnI)))) (ok_rowS (M := its.length + 1) (by omega) h1 h5 fam4)).mono (show its.length + 1 + 1 ≤ 7 by omega) fun _ h => h)).mono (Nat.le_refl _) ?_
    rintro o ⟨e, eo, d, ⟨r, rfl, hl, hd⟩, ee⟩
    exact ⟨e, eo, r, ⟨by omega, hd⟩, ee⟩
  refine (ok_seq (n := 7) (m := 0) (P := fun e => ∃ r : List Deed, (r.length ≤ 40 ∧ Ds c r) ∧ e = q6E c (gapD its) (lsD L) (sV T) (sV (nI i)) (sV (rowD r)) none) row ?_).mono (by decide) fun _ h => h
  rintro e ⟨r, ⟨hl, hd⟩, rfl⟩
  exact Ok.of (q11_ok h1 h5 F hl hd) ⟨_, rfl, rfl⟩
end FL
end
section
set_option linter.all false
set_option maxRecDepth 100000
namespace FL
open PySem PySem.Spec PyProof.Rows L2 DL FM ZS
theorem ok_forRd {r : FL} {tgt : FG} {body : FS} {env : Ev} {n m : Nat} {P : List D → Prop} {Q : Out → Prop} (h : Ok (r env) n P) (k : ∀ ds, P ds → ∃ lo l, rngOf ds = some (lo, l) ∧ Ok (forD tgt body (rngD lo l) env) m Q) : Ok (sForR r tgt body env) (n + m) Q := by
  unfold sForR
  refine Ok.bind h fun ds hd => ?_
  obtain ⟨lo, l, e, q⟩ := k ds hd
  rw [e]
  exact q
theorem ok_appD {i : Nat} {f : FE} {env : Ev} {n : Nat} {P : D → Prop} {ds : List D} (h : Ok (f env) n P) (hi : env[i]? = some (some (.own (.list ds)))) (hl : ds.length < 1000) : Ok (sApp i f env) n fun o => ∃ e, o = .nx e ∧ ∃ d, P d ∧ e = env.set i (some (.own (.list (ds ++ [d])))) := by
  unfold sApp
  rw [hi]
  dsimp only
  refine (Ok.bind (m := 0) h fun d hd => ?_).mono (Nat.le_refl _) fun _ h => h
  rw [if_pos (lt1000 hl)]
  exact Ok.ret ⟨_, rfl, d, hd, rfl⟩
section
variable {c : Nat} {l xs : List Deed} {its : List (Option (List Deed))}
def ddx (xs : List Deed) : List Deed := ((List.range xs.length).filter fun i => !mbF (xs.getD i (0, 0)) (xs.take i)).map fun i => xs.getD i (0, 0)
theorem ddx_mem {d : Deed} (h : d ∈ ddx xs) : d ∈ xs := by
  obtain ⟨i, hi, rfl⟩ := List.mem_map.mp h
  have lt := List.mem_range.mp (List.mem_filter.mp hi).1
  rw [List.getD_eq_getElem?_getD, List.getElem?_eq_getElem lt]
  exact List.getElem_mem lt
theorem ddx_ne (h : xs ≠ []) : ddx xs ≠ [] := by
  have lt : 0 < xs.length := List.length_pos_iff.mpr h
  have m : xs.getD 0 (0, 0) ∈ ddx xs := List.mem_map.mpr ⟨0, List.mem_filter.mpr ⟨List.mem_range.mpr lt, by rw [List.take_zero]; rfl⟩, rfl⟩
  exact fun e => by rw [e] at m; cases m
theorem ddx_nodup : (ddx xs).Nodup := by
  refine List.pairwise_map.mpr (List.Pairwise.imp_of_mem (fun {i j} hi hj lt e => ?_) (List.Pairwise.filter _ (List.pairwise_lt_range (n := xs.length))))
  obtain ⟨hj1, hj2⟩ := List.mem_filter.mp hj
  have hi1 := List.mem_range.mp (List.mem_filter.mp hi).1
  have hj1 := List.mem_range.mp hj1
  have no : mbF (xs.getD j (0, 0)) (xs.take j) = true := by
    rw [mbF_iff, ← e]
    refine List.mem_of_getElem? (i := i) ?_
    rw [List.getElem?_take, if_pos lt, List.getD_eq_getElem?_getD, List.getElem?_eq_getElem hi1]
    rfl
  rw [no] at hj2
  cases hj2
def leD (d e : Deed) : Bool := !decide (ltP e d)
theorem leD_tot (a b : Deed) : (leD a b || leD b a) = true := by
  unfold leD
  by_cases h : ltP b a
  · rw [decide_eq_false fun q => ltP_asym h q]
    simp
  · rw [decide_eq_false h]
    rfl
theorem leD_trans (a b d : Deed) (h : leD a b = true) (g : leD b d = true) : leD a d = true := by
  unfold leD at *
  simp only [Bool.not_eq_true', decide_eq_false_iff_not] at *
  intro z
  by_cases e : a = b
  · exact g (e ▸ z)
  · rcases ltP_tot e with k | k
    · exact g (ltP_trans z k)
    · exact h k
def srtL (xs : List Deed) : List Deed := xs.mergeSort leD
theorem srtL_perm : (srtL xs).Perm xs := List.mergeSort_perm _ _
theorem srtL_asc (nd : xs.Nodup) : (srtL xs).Pairwise ltP := by
  have p : (srtL xs).Pairwise fun a b => leD a b = true := List.pairwise_mergeSort (le := leD) leD_trans leD_tot xs
  have n : (srtL xs).Nodup := srtL_perm.nodup_iff.mpr nd
  refine List.Pairwise.imp₂ (fun a b q ne => ?_) p n
  rcases ltP_tot ne with k | k
  · exact k
  · unfold leD at q
    rw [decide_eq_true k] at q
    cases q
theorem sort_deeds (h5 : ∀ d ∈ xs, d ∈ full 5) (few : xs.length ≤ 1000) (ne : xs ≠ []) : dSortA [.list (xs.map dD)] = some (.list ((srtL xs).map dD)) := by
  have nn : dNums (xs.map dD) = none := by
    cases xs with
    | nil => exact absurd rfl ne
    | cons d xs => rfl
  have ok : sortOk (xs.map dD) = true := by
    unfold sortOk
    rw [Bool.and_eq_true, List.all_eq_true, decide_eq_true_eq]
    refine ⟨fun x hx => ?_, by rw [List.length_map]; exact few⟩
    obtain ⟨d, hd, rfl⟩ := List.mem_map.mp hx
    rw [show isTupB (dD d) = true from rfl, can_dD, dep_dD]
    refine List.all_eq_true.mpr fun y hy => ?_
    obtain ⟨e, he, rfl⟩ := List.mem_map.mp hy
    exact (lt_dD (h5 d hd) (h5 e he)).2
  have e : (srtL xs).map dD = (xs.map dD).mergeSort (PySem.W.dataLe false (id : D → D)) := List.map_mergeSort fun a ha b hb => by
    show leD a b = !PySem.W.dataLt (dD b) (dD a)
    rw [(lt_dD (h5 b hb) (h5 a ha)).1]
    rfl
  unfold dSortA
  simp only [nn, if_pos ok, e]
theorem srt_lot (h5 : ∀ d ∈ xs, d ∈ full c) (ne : xs ≠ []) : LotOk c (srtL (ddx xs)) where
  ne := fun e => ddx_ne ne (by
    have := srtL_perm (xs := ddx xs)
    rw [e] at this
    exact List.perm_nil.mp this.symm)
  mem := fun d hd => h5 d (ddx_mem (srtL_perm.mem_iff.mp hd))
  asc := srtL_asc ddx_nodup
def itE (c : Nat) (its : List (Option (List Deed))) (sz : Nat) (d4 d8 d9 d10 : Option Slot) : Ev := [some .orc, sV (nI c), sV (nI 5), sV (nI 150), d4, sV (.list ((full c).map dD)), some (.own (.list (its.map itD))), sV (nI sz), d8, d9, d10]
def liD (xs : List Deed) : D := .list (xs.map dD)
theorem len_li {i : Nat} {env : Ev} (h : eVar i env = .ret (liD xs)) : eCB dLenA (lCons (eVar i) lNil) env = .ret (nI xs.length) := cb_r (lc1 h) (by
  show some (nI (xs.map dD).length) = _
  rw [List.length_map])
theorem ix_li {n : Nat} {d : Deed} (h : xs[n]? = some d) : dIx (liD xs) (nI n) = some (dD d) := by
  have g : (xs.map dD)[n]? = some (dD d) := by rw [List.getElem?_map, h]; rfl
  have lt := (List.getElem?_eq_some_iff.mp g).1
  show atI (xs.map dD) (n : Int) = _
  unfold atI ixN
  rw [if_pos (by omega), if_pos (by omega)]
  exact g
theorem sl_takeD56 {i : Nat} {f : FE} {env : Ev} {n : Nat} (h : eVar i env = .ret (liD xs)) (hf : f env = .ret (nI n)) : eSl dSlA (eVar i) oNone (oSome f) env = .ret (liD (xs.take n)) := by
  unfold eSl oNone oSome
  rw [h, hf]
  show Tr.ret (PyData.list (DL.cutD (xs.map dD) none (some (n : Int)))) = _
  rw [cut_takeD, ← List.map_take]
  rfl
abbrev bI0 : FS := (sSet 8 (eCompR (lCons (e2 dAddA (eC (.int 1)) (eCall m_law_draw (aOrc 0 (aVal (eC (.int 4)) aNil)))) lNil) (gN 9) fYes (eCall m_law_of (aOrc 0 (aVal (eVar 5) aNil))) [9]))
abbrev bI1 : FS := (sSet 8 (eCB dSortA (lCons (eCompR (lCons (eCB dLenA (lCons (eVar 8) lNil)) lNil) (gN 10) (tt (e2 (dInA true) (e2 dIx (eVar 8) (eVar 10)) (eSl dSlA (eVar 8) oNone (oSome (eVar 10))))) (e2 dIx (eVar 8) (eVar 10)) [10]) lNil)))
abbrev bI2 : FS := (sIf (tt (e2 dEq (eCall m_law_draw (aOrc 0 (aVal (eC (.int 5)) aNil))) (eC (.int 0)))) (sSet 8 (eVar 5)) sNext)
abbrev bI3 : FS := (sIf (tt (e2 dGt (e2 dMul (eVar 7) (eCB dLenA (lCons (eVar 8) lNil))) (eVar 3))) (sSet 8 (eSl dSlA (eVar 8) oNone (oSome (eC (.int 1))))) sNext)
abbrev bI4 : FS := (sSet 7 (e2 dMul (eVar 7) (eCB dLenA (lCons (eVar 8) lNil))))
abbrev bI5 : FS := (sApp 6 (eIf (bAnd (tt (e2 dEq (eCB dLenA (lCons (eVar 8) lNil)) (eCB dLenA (lCons (eVar 5) lNil)))) (tt (e2 dEq (eCall m_law_draw (aOrc 0 (aVal (eC (.int 2)) aNil))) (eC (.int 0))))) (eC .none) (eCB dTuple (lCons (eVar 8) lNil))))
abbrev bIt : FS := sSeq bI0 (sSeq bI1 (sSeq bI2 (sSeq bI3 (sSeq bI4 bI5))))
theorem li_of {ys : List D} (h : ∀ y ∈ ys, y ∈ (full c).map dD) : ∃ xs : List Deed, ys = xs.map dD ∧ ∀ d ∈ xs, d ∈ full c := deeds_of h
theorem ok_b0 {sz : Nat} {d4 d8 d9 d10 : Option Slot} (h1 : 1 ≤ c) (h5 : c ≤ 5) : Ok (bI0 (itE c its sz d4 d8 d9 d10)) 5 fun o => ∃ e, o = .nx e ∧ ∃ xs : List Deed, (xs ≠ [] ∧ xs.length ≤ 4 ∧ ∀ d ∈ xs, d ∈ full c) ∧ e = itE c its sz d4 (sV (liD xs)) d9 d10 := by
  let E := itE c its sz d4 d8 d9 d10
  have lo := (full_ok h1 h5).1
  have fl := lo.few h5
  have q1 : Ok (lCons (e2 dAddA (eC (.int 1)) (eCall m_law_draw (aOrc 0 (aVal (eC (.int 4)) aNil)))) lNil E) 1 fun ds => ∃ d, ds = [d] ∧ ∃ k, (1 ≤ k ∧ k ≤ 4) ∧ d = nI k := ok_l1 (ok_e2r (x := nI 1) rfl (ok_drawE (l := 4) rfl rfl (by decide) (by decide)) (by
    rintro y ⟨k, hk, rfl⟩
    exact ⟨nI (1 + k), nI_add, 1 + k, ⟨by omega, by omega⟩, rfl⟩))
  have cp : Ok (eCompR (lCons (e2 dAddA (eC (.int 1)) (eCall m_law_draw (aOrc 0 (aVal (eC (.int 4)) aNil)))) lNil) (gN 9) fYes (eCall m_law_of (aOrc 0 (aVal (eVar 5) aNil))) [9] E) 5 fun d => ∃ xs : List Deed, (xs ≠ [] ∧ xs.length ≤ 4 ∧ ∀ d ∈ xs, d ∈ full c) ∧ d = liD xs := by
    refine (ok_compR (m := 4) q1 ?_).mono (by decide) fun _ h => h
    rintro ds ⟨d, rfl, k, hk, rfl⟩
    refine ⟨0, k, rngOf_n (by omega), ?_⟩
    have q := end_ok (tgt := gN 9) (t := fYes) (fe := eCall m_law_of (aOrc 0 (aVal (eVar 5) aNil))) (env := wipeE E [9]) (P := fun y => y ∈ (full c).map dD) (k := 1) (ds := rngD 0 k) (by rw [rng_n, List.length_map, List.length_range]; omega) fun d _ => ⟨(wipeE E [9]).set 9 (some (.val d)), rfl, rfl, by
      show Ok (m_law_of [.orc, .val (.list ((full c).map dD))]) 1 _
      exact ok_of (by simpa using lo.ne) (by rw [List.length_map]; omega)⟩
    have ll : (rngD 0 k).length = k := by rw [rng_n, List.length_map, List.length_range]
    rw [ll] at q
    refine q.mono (by omega) ?_
    rintro d ⟨ys, e, ly, hy⟩
    obtain ⟨xs, e2, hx⟩ := li_of hy
    rw [e2, List.length_map] at ly
    exact ⟨xs, ⟨fun z => by rw [z] at ly; simp at ly; omega, by omega, hx⟩, by rw [e, e2]; rfl⟩
  refine (ok_set cp).mono (Nat.le_refl _) ?_
  rintro o ⟨e, eo, d, ⟨xs, hx, rfl⟩, ee⟩
  exact ⟨e, eo, xs, hx, ee⟩
theorem b1_ok {sz : Nat} {d4 d9 d10 : Option Slot} (h5 : ∀ d ∈ xs, d ∈ full 5) (ne : xs ≠ []) (few : xs.length ≤ 4) : bI1 (itE c its sz d4 (sV (liD xs)) d9 d10) = .ret (.nx (itE c its sz d4 (sV (liD (srtL (ddx xs)))) d9 d10)) := by
  let E := itE c its sz d4 (sV (liD xs)) d9 d10
  have cp : eCompR (lCons (eCB dLenA (lCons (eVar 8) lNil)) lNil) (gN 10) (tt (e2 (dInA true) (e2 dIx (eVar 8) (eVar 10)) (eSl dSlA (eVar 8) oNone (oSome (eVar 10))))) (e2 dIx (eVar 8) (eVar 10)) [10] E = .ret (liD (ddx xs)) := by
    rw [compR_eq (lo := 0) (n := xs.length) (lc1 (len_li (xs := xs) rfl)) (rngOf_n (by omega))]
    unfold endComp
    rw [rng_n, if_pos (by rw [List.length_map, List.length_range]; exact small_len (by omega)), comp_filter (g := fun i => dD (xs.getD i (0, 0))) (p := fun i => !mbF (xs.getD i (0, 0)) (xs.take i)) (List.range xs.length) fun i hi => ?_]
    · show Tr.ret (PyData.list _) = _
      unfold liD ddx
      rw [List.map_map]
      rfl
    · have lt := List.mem_range.mp hi
      have g : xs[i]? = some (xs.getD i (0, 0)) := by rw [List.getD_eq_getElem?_getD, List.getElem?_eq_getElem lt]; rfl
      have ix : e2 dIx (eVar 8) (eVar 10) (itE c its sz d4 (sV (liD xs)) d9 (sV (nI i))) = .ret (dD (xs.getD i (0, 0))) := e2_r (x := liD xs) (y := nI i) rfl rfl (ix_li g)
      refine ⟨itE c its sz d4 (sV (liD xs)) d9 (sV (nI i)), rfl, tt_b (e2_r ix (sl_takeD56 (xs := xs) (n := i) rfl rfl) ?_), fun _ => ix⟩
      have hd : xs.getD i (0, 0) ∈ full 5 := h5 _ (List.mem_of_getElem? g)
      have hl : ∀ e ∈ xs.take i, e ∈ full 5 := fun e he => h5 e (List.mem_of_mem_take he)
      show (if (flatD (dD (xs.getD i (0, 0))) && ((xs.take i).map dD).all flatD) || inOk (dD (xs.getD i (0, 0))) ((xs.take i).map dD) then some (PyData.bool (if true = true then !memD (dD (xs.getD i (0, 0))) ((xs.take i).map dD) else memD (dD (xs.getD i (0, 0))) ((xs.take i).map dD))) else none) = _
      rw [inOk_gen can_dD (by rw [dep_dD]; decide), Bool.or_true, if_pos rfl, if_pos rfl, mem_gen fun e he => eqv_deed (hl e he) hd]
  have dl : (ddx xs).length ≤ 1000 := by
    unfold ddx
    rw [List.length_map]
    have := List.length_filter_le (fun i => !mbF (xs.getD i (0, 0)) (xs.take i)) (List.range xs.length)
    rw [List.length_range] at this
    omega
  exact set_nx (cb_r (lc1 cp) (sort_deeds (fun d hd => h5 d (ddx_mem hd)) dl (ddx_ne ne)))
theorem ok_b2 {sz : Nat} {d4 d9 d10 : Option Slot} (h1 : 1 ≤ c) (h5 : c ≤ 5) (lo : LotOk c l) : Ok (bI2 (itE c its sz d4 (sV (liD l)) d9 d10)) 1 fun o => ∃ e, o = .nx e ∧ ∃ l, LotOk c l ∧ e = itE c its sz d4 (sV (liD l)) d9 d10 := by
  refine (ok_if (n := 1) (m := 0) (ok_tt (ok_e2l (Q := fun d => ∃ b, d = .bool b) (ok_drawE (l := 5) rfl rfl (by decide) (by decide)) (y := nI 0) rfl ?_)) ?_ ?_).mono (by decide) fun _ h => h
  · rintro x ⟨k, _, rfl⟩
    exact ⟨_, nI_eq, _, rfl⟩
  · exact Ok.of (set_nx (d := liD (full c)) rfl) ⟨_, rfl, full c, (full_ok h1 h5).1, rfl⟩
  · exact Ok.of (a := .nx (itE c its sz d4 (sV (liD l)) d9 d10)) rfl ⟨_, rfl, l, lo, rfl⟩
theorem take_lot (lo : LotOk c l) : LotOk c (l.take 1) ∧ (l.take 1).length = 1 := by
  have p := lo.pos
  have e : (l.take 1).length = 1 := by rw [List.length_take]; omega
  exact ⟨⟨fun z => (by rw [z] at e; cases e), fun d hd => lo.mem d (List.mem_of_mem_take hd), lo.asc.sublist (List.take_sublist 1 l)⟩, e⟩
theorem b3_ok {sz : Nat} {d4 d9 d10 : Option Slot} (h5 : c ≤ 5) (lo : LotOk c l) (hs : sz ≤ 150) : ∃ l', LotOk c l' ∧ sz * l'.length ≤ 150 ∧ bI3 (itE c its sz d4 (sV (liD l)) d9 d10) = .ret (.nx (itE c its sz d4 (sV (liD l')) d9 d10)) := by
  let E := itE c its sz d4 (sV (liD l)) d9 d10
  have few := lo.few h5
  have t : tt (e2 dGt (e2 dMul (eVar 7) (eCB dLenA (lCons (eVar 8) lNil))) (eVar 3)) E = .ret (decide (150 < sz * l.length)) := by
    refine tt_b (e2_r (y := nI 150) (e2_r (x := nI sz) rfl (len_li (xs := l) rfl) (nI_mulS (by omega))) rfl ?_)
    show some (PyData.bool (decide (((sz * l.length : Nat) : Int) > ((150 : Nat) : Int)))) = _
    refine congrArg (fun b => some (PyData.bool b)) (decide_eq_decide.mpr ?_)
    omega
  by_cases z : 150 < sz * l.length
  · rw [decide_eq_true z] at t
    obtain ⟨a, b⟩ := take_lot lo
    exact ⟨l.take 1, a, by rw [b]; omega, (if_yes t).trans (set_nx (sl_takeD56 (xs := l) (n := 1) rfl rfl))⟩
  · rw [decide_eq_false z] at t
    exact ⟨l, lo, by omega, (if_no t).trans rfl⟩
theorem snoc_gap {it : Option (List Deed)} (F : FewG c its) (n : its.length < 5) (lo : LotOk c (lotO c it)) (hs : manyF (lotsG c its) * (lotO c it).length ≤ 150) (hit : ∀ l, it = some l → LotOk c l) : FewG c (its ++ [it]) ∧ manyF (lotsG c (its ++ [it])) = manyF (lotsG c its) * (lotO c it).length := by
  have e : manyF (lotsG c (its ++ [it])) = manyF (lotsG c its) * (lotO c it).length := by
    unfold lotsG
    rw [List.map_append]
    exact manyF_snoc _ _
  refine ⟨⟨⟨?_, fun l hl => ?_⟩, by rw [e]; exact hs, ?_⟩, e⟩
  · rw [List.length_append]
    show its.length + 1 ≤ 12
    omega
  · rcases List.mem_append.mp hl with h | h
    · exact F.g.lot l h
    · exact hit l (List.mem_singleton.mp h).symm
  · rw [List.length_append]
    show its.length + 1 ≤ 5
    omega
theorem ok_bIt {d4 d8 d9 d10 : Option Slot} (h1 : 1 ≤ c) (h5 : c ≤ 5) (F : FewG c its) (n : its.length < 5) : Ok (bIt (itE c its (manyF (lotsG c its)) d4 d8 d9 d10)) 7 fun o => ∃ e, o = .nx e ∧ ∃ it d8 d9 d10, FewG c (its ++ [it]) ∧ e = itE c (its ++ [it]) (manyF (lotsG c (its ++ [it]))) d4 d8 d9 d10 := by
  let S := manyF (lotsG c its)
  refine (ok_seq (n := 5) (m := 2) (P := fun e => ∃ xs : List Deed, (xs ≠ [] ∧ xs.length ≤ 4 ∧ ∀ d ∈ xs, d ∈ full c) ∧ e = itE c its S d4 (sV (liD xs)) d9 d10) (ok_b0 h1 h5) ?_).mono (by decide) fun _ h => h
  rintro e ⟨xs, ⟨ne, few, hx⟩, rfl⟩
  refine ok_eq (seq_nx (b1_ok (fun d hd => five_of h1 h5 (hx d hd)) ne few)) ?_
  refine (ok_seq (n := 1) (m := 1) (P := fun e => ∃ l, LotOk c l ∧ e = itE c its S d4 (sV (liD l)) d9 d10) (ok_b2 h1 h5 (srt_lot hx ne)) ?_).mono (by decide) fun _ h => h
  rintro e ⟨l, lo, rfl⟩
  obtain ⟨l', lo', hs, q3⟩ := b3_ok (its := its) (sz := S) (d4 := d4) (d9 := d9) (d10 := d10) h5 lo F.sz
  refine ok_eq (seq_nx q3) ?_
  have few' := lo'.few h5
  have q4 : bI4 (itE c its S d4 (sV (liD l')) d9 d10) = .ret (.nx (itE c its (S * l'.length) d4 (sV (liD l')) d9 d10)) := set_nx (e2_r (x := nI S) rfl (len_li (xs := l') rfl) (nI_mulS (by omega)))
  refine ok_eq (seq_nx q4) ?_
  let E := itE c its (S * l'.length) d4 (sV (liD l')) d9 d10
  have t1 : tt (e2 dEq (eCB dLenA (lCons (eVar 8) lNil)) (eCB dLenA (lCons (eVar 5) lNil))) E = .ret (decide (l'.length = (full c).length)) := tt_b (e2_r (len_li (xs := l') rfl) (len_li (xs := full c) rfl) nI_eq)
  have some_it : Ok (eIf (bAnd (tt (e2 dEq (eCB dLenA (lCons (eVar 8) lNil)) (eCB dLenA (lCons (eVar 5) lNil)))) (tt (e2 dEq (eCall m_law_draw (aOrc 0 (aVal (eC (.int 2)) aNil))) (eC (.int 0))))) (eC .none) (eCB dTuple (lCons (eVar 8) lNil)) E) 1 fun d => ∃ it, d = itD it ∧ (lotO c it).length = l'.length ∧ LotOk c (lotO c it) ∧ ∀ l, it = some l → LotOk c l := by
    have tup : eCB dTuple (lCons (eVar 8) lNil) E = .ret (itD (some l')) := cb_r (lc1 (d := liD l') rfl) rfl
    have yes : ∃ it, itD (some l') = itD it ∧ (lotO c it).length = l'.length ∧ LotOk c (lotO c it) ∧ ∀ l, it = some l → LotOk c l := ⟨some l', rfl, rfl, lo', fun l h => by cases h; exact lo'⟩
    by_cases z : l'.length = (full c).length
    · rw [decide_eq_true z] at t1
      have dr : Ok (tt (e2 dEq (eCall m_law_draw (aOrc 0 (aVal (eC (.int 2)) aNil))) (eC (.int 0))) E) 1 fun _ => True := ok_tt (ok_e2l (Q := fun d => ∃ b, d = .bool b) (ok_drawE (l := 2) rfl rfl (by decide) (by decide)) (y := nI 0) rfl (by
        rintro x ⟨k, _, rfl⟩
        exact ⟨_, nI_eq, _, rfl⟩))
      unfold eIf
      rw [and_yes t1]
      refine (Ok.bind (m := 0) dr fun b _ => ?_).mono (by decide) fun _ h => h
      cases b
      · exact Ok.of tup yes
      · exact Ok.of (a := .none) rfl ⟨none, rfl, z.symm, (full_ok h1 h5).1, fun l h => by cases h⟩
    · rw [decide_eq_false z] at t1
      exact (Ok.of ((eif_no (and_no t1)).trans tup) yes).mono (by decide) fun _ h => h
  refine (ok_appD some_it (ds := its.map itD) rfl (by rw [List.length_map]; omega)).mono (Nat.le_refl _) ?_
  rintro o ⟨e, eo, d, ⟨it, rfl, ll, lok, hit⟩, ee⟩
  obtain ⟨F', em⟩ := snoc_gap F n lok (by rw [ll]; exact hs) hit
  refine ⟨e, eo, it, sV (liD l'), d9, d10, F', ?_⟩
  rw [ee, em, ll]
  unfold itE
  rw [List.map_append]
  rfl
end
end FL
end
section
set_option linter.all false
set_option maxRecDepth 100000
namespace FL
open PySem PySem.Spec PyProof.Rows L2 DL FM ZS
section
variable {c : Nat}
theorem ok_turns (h1 : 1 ≤ c) (h5 : c ≤ 5) : ∀ (ts : List Nat) (its : List (Option (List Deed))) (d4 d8 d9 d10 : Option Slot), FewG c its → its.length + ts.length ≤ 5 → Ok (forD (gN 4) bIt (ts.map nI) (itE c its (manyF (lotsG c its)) d4 d8 d9 d10)) (7 * ts.length) fun o => ∃ e, o = .nx e ∧ ∃ its d4 d8 d9 d10, FewG c its ∧ e = itE c its (manyF (lotsG c its)) d4 d8 d9 d10
  | [], its, d4, d8, d9, d10, F, _ => Ok.of rfl ⟨_, rfl, its, d4, d8, d9, d10, F, rfl⟩
  | t :: ts, its, d4, d8, d9, d10, F, n => by
    rw [List.length_cons] at n
    have tg : gN 4 (nI t) (itE c its (manyF (lotsG c its)) d4 d8 d9 d10) = some (itE c its (manyF (lotsG c its)) (sV (nI t)) d8 d9 d10) := rfl
    rw [List.map_cons, forD, tg]
    refine (Ok.bind (m := 7 * ts.length) (ok_bIt h1 h5 F (by omega)) ?_).mono (by rw [List.length_cons]; omega) fun _ h => h
    rintro o ⟨e, rfl, it, e8, e9, e10, F', rfl⟩
    exact ok_turns h1 h5 ts (its ++ [it]) (sV (nI t)) e8 e9 e10 F' (by rw [List.length_append]; show its.length + 1 + _ ≤ 5; omega)
theorem nil_few : FewG c [] := ⟨⟨Nat.zero_le _, fun l h => by cases h⟩, show 1 ≤ 150 by decide, Nat.zero_le _⟩
abbrev i56_0 : FS := sPar3 false true false 5 6 7 (eCall m_law_deeds (aVal (eVar 1) (aVal words4 aNil))) (eLst lNil) (eC (.int 1))
abbrev i56_1 : FS := sForR (lCons (eCall m_law_draw (aOrc 0 (aVal (e2 dAddA (eVar 2) (eC (.int 1))) aNil))) lNil) (gN 4) bIt
abbrev i56_2 : FS := sRet (eCB dTuple (lCons (eVarB 6) lNil))
theorem items_def : m_law_items = fnF 11 .v (sSeq i56_0 (sSeq i56_1 i56_2)) := rfl
theorem ok_items (h1 : 1 ≤ c) (h5 : c ≤ 5) : Ok (m_law_items [.orc, .val (nI c), .val (nI 5), .val (nI 150)]) 36 fun d => ∃ its, FewG c its ∧ d = gapD its := by
  rw [items_def]
  refine ok_fn ?_
  have s0 : i56_0 (startE 11 [.orc, .val (nI c), .val (nI 5), .val (nI 150)]) = .ret (.nx (itE c [] (manyF (lotsG c [])) none none none none)) := by
    show sPar3 _ _ _ _ _ _ _ _ _ _ = _
    unfold sPar3
    rw [call_r (aC (d := nI c) rfl (a1 words4_r)) (v_ldeeds h1 h5)]
    rfl
  refine ok_eq (seq_nx s0) ?_
  have lp : Ok (i56_1 (itE c [] (manyF (lotsG c [])) none none none none)) 36 fun o => ∃ e, o = .nx e ∧ ∃ its d4 d8 d9 d10, FewG c its ∧ e = itE c its (manyF (lotsG c its)) d4 d8 d9 d10 := by
    have q1 : Ok (lCons (eCall m_law_draw (aOrc 0 (aVal (e2 dAddA (eVar 2) (eC (.int 1))) aNil))) lNil (itE c [] (manyF (lotsG c [])) none none none none)) 1 fun ds => ∃ d, ds = [d] ∧ ∃ k, k < 6 ∧ d = nI k := ok_l1 (ok_drawE (l := 6) rfl (e2_r (x := nI 5) (y := nI 1) rfl rfl nI_add) (by decide) (by decide))
    refine (ok_forRd (m := 35) q1 ?_).mono (by decide) fun _ h => h
    rintro ds ⟨d, rfl, k, hk, rfl⟩
    refine ⟨0, k, rngOf_n (by omega), ?_⟩
    rw [rng_n]
    refine (ok_turns h1 h5 (List.range k) [] none none none none nil_few ?_).mono ?_ fun _ h => h
    · rw [List.length_range]
      show 0 + k ≤ 5
      omega
    · rw [List.length_range]
      omega
  refine (ok_seq (n := 36) (m := 0) lp ?_).mono (by decide) fun _ h => h
  rintro e ⟨its, d4, d8, d9, d10, F, rfl⟩
  exact Ok.of (a := .rv (gapD its)) (ret_rv (cb_r (lc1 (d := .list (its.map itD)) rfl) rfl)) ⟨_, rfl, its, F, rfl⟩
end
end FL
end
section
set_option linter.all false
set_option maxRecDepth 100000
namespace FL
open PySem PySem.Spec PyProof.Rows L2 DL FM ZS
theorem comp_pw {γ δ : Type} {dd : γ → D} {g : δ → D} {R : γ → δ → Prop} {tgt : FG} {t : FT} {fe : FE} {env : Ev} {k : Nat} : ∀ (xs : List γ), (∀ x ∈ xs, ∃ env1, tgt (dd x) env = some env1 ∧ t env1 = .ret true ∧ Ok (fe env1) k fun y => ∃ z, y = g z ∧ R x z) → Ok (compD tgt t fe env (xs.map dd)) (k * xs.length) fun ys => ∃ zs : List δ, ys = zs.map g ∧ zs.length = xs.length ∧ ∀ p ∈ xs.zip zs, R p.1 p.2
  | [], _ => Ok.ret ⟨[], rfl, rfl, fun p h => by cases h⟩
  | x :: xs, h => by
    obtain ⟨e1, h1, h2, h3⟩ := h x List.mem_cons_self
    have e : compD tgt t fe env (dd x :: xs.map dd) = (fe e1).bind fun y => (compD tgt t fe env (xs.map dd)).bind fun ys => .ret (y :: ys) := by
      rw [compD, h1]
      dsimp only
      rw [h2, bret, if_pos rfl]
    rw [List.map_cons, e]
    refine (Ok.bind (m := k * xs.length + 0) h3 fun y hy => Ok.bind (comp_pw xs fun z hz => h z (List.mem_cons_of_mem _ hz)) fun ys hys => ?_).mono (by rw [List.length_cons, Nat.mul_succ]; omega) fun _ h => h
    obtain ⟨z, rfl, r⟩ := hy
    obtain ⟨zs, rfl, l, rs⟩ := hys
    refine Ok.ret ⟨z :: zs, rfl, by rw [List.length_cons, List.length_cons, l], fun p hp => ?_⟩
    have hp : p ∈ (x, z) :: xs.zip zs := hp
    rcases List.mem_cons.mp hp with rfl | hp
    · exact r
    · exact rs p hp
theorem end_pw {γ δ : Type} {dd : γ → D} {g : δ → D} {R : γ → δ → Prop} {tgt : FG} {t : FT} {fe : FE} {env : Ev} {k : Nat} {xs : List γ} (hl : xs.length ≤ 1000) (h : ∀ x ∈ xs, ∃ env1, tgt (dd x) env = some env1 ∧ t env1 = .ret true ∧ Ok (fe env1) k fun y => ∃ z, y = g z ∧ R x z) : Ok (endComp tgt t fe env (xs.map dd)) (k * xs.length) fun d => ∃ zs : List δ, d = .list (zs.map g) ∧ zs.length = xs.length ∧ ∀ p ∈ xs.zip zs, R p.1 p.2 := by
  unfold endComp
  rw [if_pos (sl1000 (by rw [List.length_map]; exact hl))]
  refine (Ok.bind (m := 0) (comp_pw xs h) ?_).mono (by omega) fun _ h => h
  rintro ys ⟨zs, rfl, l, r⟩
  exact Ok.ret ⟨zs, rfl, l, r⟩
section
variable {c : Nat} {ls : List (List Deed)} {its : List (Option (List Deed))}
def pickR (ls : List (List Deed)) (ps : List Nat) : List Deed := (ls.zip ps).map fun p => p.1.getD p.2 (0, 0)
def atP (ls : List (List Deed)) (ps : List Nat) (n : Nat) : Nat := (ls.zip ps).foldl (fun n p => n * p.1.length + p.2) n
theorem getD_get {l : List Deed} {p : Nat} (h : p < l.length) : l[p]? = some (l.getD p (0, 0)) := by rw [List.getD_eq_getElem?_getD, List.getElem?_eq_getElem h]; rfl
theorem pl_pick {l : List Deed} {p : Nat} (nd : l.Nodup) (h : p < l.length) : plF l (l.getD p (0, 0)) = p := by
  have m : l.getD p (0, 0) ∈ l := List.mem_of_getElem? (getD_get h)
  exact (List.getElem?_inj (plF_lt m) nd).mp ((plF_get m).trans (getD_get h).symm)
theorem pick_fil : ∀ (ls : List (List Deed)) (ps : List Nat), ps.length = ls.length → (∀ p ∈ ls.zip ps, p.2 < p.1.length) → FilF ls (pickR ls ps)
  | [], [], _, _ => ⟨rfl, fun p h => by cases h⟩
  | l :: ls, p :: ps, hl, h => by
    obtain ⟨a, b⟩ := pick_fil ls ps (Nat.succ.inj hl) fun q hq => h q (List.mem_cons_of_mem _ hq)
    refine ⟨congrArg Nat.succ a, fun q hq => ?_⟩
    have hq : q ∈ (l.getD p (0, 0), l) :: (pickR ls ps).zip ls := hq
    rcases List.mem_cons.mp hq with rfl | hq
    · exact List.mem_of_getElem? (getD_get (h (l, p) List.mem_cons_self))
    · exact b q hq
  | [], _ :: _, hl, _ => by cases hl
  | _ :: _, [], hl, _ => by cases hl
theorem pick_num : ∀ (ls : List (List Deed)) (ps : List Nat) (n : Nat), ps.length = ls.length → (∀ l ∈ ls, l.Nodup) → (∀ p ∈ ls.zip ps, p.2 < p.1.length) → ((pickR ls ps).zip ls).foldl (fun n p => n * p.2.length + plF p.2 p.1) n = atP ls ps n
  | [], [], n, _, _, _ => rfl
  | l :: ls, p :: ps, n, hl, nd, h => by
    have e := pl_pick (nd l List.mem_cons_self) (h (l, p) List.mem_cons_self)
    show ((pickR ls ps).zip ls).foldl _ (n * l.length + plF l (l.getD p (0, 0))) = atP ls ps (n * l.length + p)
    rw [e]
    exact pick_num ls ps _ (Nat.succ.inj hl) (fun x hx => nd x (List.mem_cons_of_mem _ hx)) fun q hq => h q (List.mem_cons_of_mem _ hq)
  | [], _ :: _, _, hl, _, _ => by cases hl
  | _ :: _, [], _, hl, _, _ => by cases hl
theorem many_le (ls : List (List Deed)) (h : ∀ l ∈ ls, l.length ≤ 20) : manyF ls ≤ 20 ^ ls.length := by
  induction ls using snoc_ind with
  | h0 => exact Nat.le_refl 1
  | h ls l ih =>
    rw [manyF_snoc, List.length_append, List.length_singleton, Nat.pow_succ]
    exact Nat.mul_le_mul (ih fun x hx => h x (List.mem_append_left _ hx)) (h l (List.mem_append_right _ (by simp)))
end
end FL
end
section
set_option linter.all false
set_option maxRecDepth 100000
namespace FL
open PySem PySem.Spec PyProof.Rows L2 DL FM ZS
abbrev g56_0 : FS := (sSet 2 (eLst (lCons (eC .none) (lCons (eC .none) (lCons (eTup (lCons (eTup (lCons (eC (.str "cut")) (lCons (eC (.int 0)) lNil))) lNil)) (lCons (eC .none) (lCons (eTup (lCons (eTup (lCons (eC (.str "cut")) (lCons (e2 dSub (eVar 1) (eC (.int 1))) lNil))) lNil)) lNil)))))))
abbrev g56_1 : FS := (sSet 3 (eCB dTuple (lCons (eCompR (lCons (eC (.int 12)) lNil) (gN 12) fYes (eCall m_law_of (aOrc 0 (aVal (eVar 2) aNil))) [12]) lNil)))
abbrev g56_2 : FS := (sPar false false 7 8 (eCall m_law_lots56 (aVal (eVar 1) (aVal (eVar 3) aNil))) (eC (.int 1)))
abbrev g56_3 : FS := (sForS (eVar 7) (gN 4) (sSet 8 (e2 dMul (eVar 8) (eCB dLenA (lCons (eVar 4) lNil)))))
abbrev g56_4 : FS := (sSet 5 (eCompS (eVar 7) (gN 4) fYes (eCall m_law_draw (aOrc 0 (aVal (eCB dLenA (lCons (eVar 4) lNil)) aNil))) [4]))
abbrev g56_5 : FS := (sPar false false 9 10 (eCB dTuple (lCons (eCompZF (lCons (eVar 7) (lCons (eVar 5) lNil)) (gT 2 (gsCons (gN 4) (gsCons (gN 11) gsNil))) fYes (e2 dIx (eVar 4) (eVar 11)) [4, 11]) lNil)) (eC (.int 0)))
abbrev g56_6 : FS := (sForZF (lCons (eVar 7) (lCons (eVar 5) lNil)) (gT 2 (gsCons (gN 4) (gsCons (gN 11) gsNil))) (sSet 10 (e2 dAddA (e2 dMul (eVar 10) (eCB dLenA (lCons (eVar 4) lNil))) (eVar 11))))
abbrev g56_7 : FS := (sSetO 6 (eLst (lCons (eCall m_many_fillings (aVal (eVar 1) (aVal (eVar 3) aNil))) (lCons (eCall m_number_of_filling (aVal (eVar 1) (aVal (eVar 3) (aVal (eVar 9) aNil)))) lNil))))
abbrev g56_8 : FS := (sApp 6 (eCall m_filling_at (aVal (eVar 1) (aVal (eVar 3) (aVal (eVar 10) aNil)))))
abbrev g56_9 : FS := (sRet (eCall m_law_like (aVal (eVar 6) (aVal (eLst (lCons (eVar 8) (lCons (eVar 10) (lCons (eVar 9) lNil)))) aNil))))
abbrev g56__t9 : FS := g56_9
theorem lst5 {fa fb fc fd fe : FE} {env : Ev} {x y z u v : D} (ha : fa env = .ret x) (hb : fb env = .ret y) (hc : fc env = .ret z) (hd : fd env = .ret u) (he : fe env = .ret v) : eLst (lCons fa (lCons fb (lCons fc (lCons fd (lCons fe lNil))))) env = .ret (.list [x, y, z, u, v]) := by
  unfold eLst lCons lNil
  rw [ha, bret, hb, bret, hc, bret, hd, bret, he, bret]
  rfl
section
variable {c : Nat} {its : List (Option (List Deed))}
def bse (c : Nat) : List (Option (List Deed)) := [none, none, some [(0, 0)], none, some [(0, c - 1)]]
def g6E (c : Nat) (d3 d4 d5 d6 d7 d8 d9 d10 d11 d12 : Option Slot) : Ev := [some .orc, sV (nI c), sV (.list ((bse c).map itD)), d3, d4, d5, d6, d7, d8, d9, d10, d11, d12]
def bseB (c : Nat) : Bool := (full c).contains (0, 0) && (full c).contains (0, c - 1)
theorem bse_all : (cords.all bseB) = true := by decide +kernel
theorem bse_ok (h1 : 1 ≤ c) (h5 : c ≤ 5) : ∀ l, some l ∈ bse c → LotOk c l := fun l hl => by
  have h := List.all_eq_true.mp bse_all c (in_cords h1 h5)
  unfold bseB at h
  rw [Bool.and_eq_true] at h
  have one : ∀ d : Deed, d ∈ full c → LotOk c [d] := fun d hd => ⟨List.cons_ne_nil _ _, fun x hx => (List.mem_singleton.mp hx) ▸ hd, List.pairwise_singleton _ _⟩
  have e : l = [(0, 0)] ∨ l = [(0, c - 1)] := by simpa [bse] using hl
  rcases e with rfl | rfl
  · exact one _ (by simpa using h.1)
  · exact one _ (by simpa using h.2)
theorem gg0_ok (h1 : 1 ≤ c) : g56_0 (startE 13 [.orc, .val (nI c)]) = .ret (.nx (g6E c none none none none none none none none none none)) := by
  have sb : e2 dSub (eVar 1) (eC (.int 1)) (startE 13 [.orc, .val (nI c)]) = .ret (nI (c - 1)) := e2_r (x := nI c) (y := nI 1) rfl rfl (nI_sub h1)
  refine set_nx (d := .list ((bse c).map itD)) ?_
  have t : eTup (lCons (eTup (lCons (eC (.str "cut")) (lCons (e2 dSub (eVar 1) (eC (.int 1))) lNil))) lNil) (startE 13 [.orc, .val (nI c)]) = .ret (rowD [(0, c - 1)]) := tup1 (tup2 rfl sb)
  exact lst5 rfl rfl rfl rfl t
theorem its_of : ∀ {ys : List D}, (∀ y ∈ ys, y ∈ (bse c).map itD) → ∃ its : List (Option (List Deed)), ys = its.map itD ∧ ∀ it ∈ its, it ∈ bse c
  | [], _ => ⟨[], rfl, fun _ h => by cases h⟩
  | y :: ys, h => by
    obtain ⟨it, m, rfl⟩ := List.mem_map.mp (h y List.mem_cons_self)
    obtain ⟨its, rfl, k⟩ := its_of (ys := ys) fun z hz => h z (List.mem_cons_of_mem _ hz)
    exact ⟨it :: its, rfl, fun x hx => (List.mem_cons.mp hx).elim (fun e => e ▸ m) (k x)⟩
theorem ok_g1 (h1 : 1 ≤ c) (h5 : c ≤ 5) : Ok (g56_1 (g6E c none none none none none none none none none none)) 12 fun o => ∃ e, o = .nx e ∧ ∃ its, (GapOk c its ∧ its.length = 12) ∧ e = g6E c (sV (gapD its)) none none none none none none none none none := by
  let E := g6E c none none none none none none none none none none
  have cp : Ok (eCompR (lCons (eC (.int 12)) lNil) (gN 12) fYes (eCall m_law_of (aOrc 0 (aVal (eVar 2) aNil))) [12] E) 12 fun d => ∃ its : List (Option (List Deed)), d = .list (its.map itD) ∧ GapOk c its ∧ its.length = 12 := by
    rw [compR_eq (lo := 0) (n := 12) (lc1 (d := nI 12) rfl) (rngOf_n (by decide))]
    have q := end_ok (tgt := gN 12) (t := fYes) (fe := eCall m_law_of (aOrc 0 (aVal (eVar 2) aNil))) (env := wipeE E [12]) (P := fun y => y ∈ (bse c).map itD) (k := 1) (ds := rngD 0 12) (by rw [rng_n, List.length_map, List.length_range]; decide) fun d _ => ⟨(wipeE E [12]).set 12 (some (.val d)), rfl, rfl, ok_callr (aO rfl (a1 (d := .list ((bse c).map itD)) rfl)) (ok_of (by unfold bse; simp) (by rw [List.length_map]; show 5 < 1000; decide))⟩
    have ll : (rngD 0 12).length = 12 := by rw [rng_n, List.length_map, List.length_range]
    rw [ll] at q
    refine q.mono (by decide) ?_
    rintro d ⟨ys, e, ly, hy⟩
    obtain ⟨its, rfl, k⟩ := its_of hy
    rw [List.length_map] at ly
    exact ⟨its, e, ⟨by omega, fun l hl => bse_ok h1 h5 l (k _ hl)⟩, ly⟩
  refine (ok_set (ok_cb1 (Q := fun d => ∃ its, (GapOk c its ∧ its.length = 12) ∧ d = gapD its) cp ?_)).mono (Nat.le_refl _) ?_
  · rintro d ⟨its, rfl, g, l⟩
    exact ⟨gapD its, rfl, its, ⟨g, l⟩, rfl⟩
  · rintro o ⟨e, eo, d, ⟨its, h, rfl⟩, ee⟩
    exact ⟨e, eo, its, h, ee⟩
theorem gg2_ok (h1 : 1 ≤ c) (h5 : c ≤ 5) (few : its.length ≤ 12) : g56_2 (g6E c (sV (gapD its)) none none none none none none none none none) = .ret (.nx (g6E c (sV (gapD its)) none none none (sV (lsD (lotsG c its))) (sV (nI 1)) none none none none)) := by
  show sPar _ _ _ _ _ _ _ = _
  unfold sPar
  rw [call_r (aC (d := nI c) rfl (a1 (d := gapD its) rfl)) (v_llots h1 h5 few)]
  rfl
abbrev bTot : FS := sSet 8 (e2 dMul (eVar 8) (eCB dLenA (lCons (eVar 4) lNil)))
theorem tot_walk {d3 d7 : Option Slot} : ∀ (ls : List (List Deed)) (t : Nat) (d4 : Option Slot), (∀ l ∈ ls, l.length ≤ 20) → ∃ e4, forD (gN 4) bTot (ls.map rowD) (g6E c d3 d4 none none d7 (sV (nI t)) none none none none) = .ret (.nx (g6E c d3 e4 none none d7 (sV (nI (ls.foldl (fun t l => t * l.length) t))) none none none none))
  | [], t, d4, _ => ⟨d4, rfl⟩
  | l :: ls, t, d4, h => by
    obtain ⟨e4, q⟩ := tot_walk (d3 := d3) (d7 := d7) ls (t * l.length) (sV (rowD l)) fun x hx => h x (List.mem_cons_of_mem _ hx)
    have b : bTot (g6E c d3 (sV (rowD l)) none none d7 (sV (nI t)) none none none none) = .ret (.nx (g6E c d3 (sV (rowD l)) none none d7 (sV (nI (t * l.length))) none none none none)) := set_nx (e2_r (x := nI t) rfl (len_rowD rfl) (nI_mulS (by have := h l List.mem_cons_self; omega)))
    exact ⟨e4, (forD_nx (env1 := g6E c d3 (sV (rowD l)) none none d7 (sV (nI t)) none none none none) rfl b).trans q⟩
theorem ok_g4 {d3 d4 d8 : Option Slot} {ls : List (List Deed)} (few : ls.length ≤ 12) (h : ∀ l ∈ ls, 1 ≤ l.length ∧ l.length ≤ 20) : Ok (g56_4 (g6E c d3 d4 none none (sV (lsD ls)) d8 none none none none)) 12 fun o => ∃ e, o = .nx e ∧ ∃ ps : List Nat, (ps.length = ls.length ∧ ∀ p ∈ ls.zip ps, p.2 < p.1.length) ∧ e = g6E c d3 d4 (sV (.list (nL ps))) none (sV (lsD ls)) d8 none none none none := by
  let E := g6E c d3 d4 none none (sV (lsD ls)) d8 none none none none
  have cp : Ok (eCompS (eVar 7) (gN 4) fYes (eCall m_law_draw (aOrc 0 (aVal (eCB dLenA (lCons (eVar 4) lNil)) aNil))) [4] E) 12 fun d => ∃ ps : List Nat, d = .list (ps.map nI) ∧ ps.length = ls.length ∧ ∀ p ∈ ls.zip ps, p.2 < p.1.length := by
    rw [compS_any (d := lsD ls) (ds := ls.map rowD) rfl rfl]
    refine (end_pw (R := fun (l : List Deed) p => p < l.length) (k := 1) (by omega) fun l hl => ?_).mono (by omega) fun _ h => h
    have hh := h l hl
    refine ⟨g6E c d3 (sV (rowD l)) none none (sV (lsD ls)) d8 none none none none, rfl, rfl, (ok_drawE (l := l.length) rfl (len_rowD rfl) hh.1 (by omega)).mono (Nat.le_refl _) ?_⟩
    rintro y ⟨k, hk, rfl⟩
    exact ⟨k, rfl, hk⟩
  refine (ok_set cp).mono (Nat.le_refl _) ?_
  rintro o ⟨e, eo, d, ⟨ps, rfl, h⟩, ee⟩
  exact ⟨e, eo, ps, h, ee⟩
abbrev tg411 : FG := gT 2 (gsCons (gN 4) (gsCons (gN 11) gsNil))
theorem gg5_ok {d3 d4 d8 : Option Slot} {ls : List (List Deed)} {ps : List Nat} (few : ls.length ≤ 12) (h : ∀ p ∈ ls.zip ps, p.2 < p.1.length) : g56_5 (g6E c d3 d4 (sV (.list (nL ps))) none (sV (lsD ls)) d8 none none none none) = .ret (.nx (g6E c d3 d4 (sV (.list (nL ps))) none (sV (lsD ls)) d8 (sV (rowD (pickR ls ps))) (sV (nI 0)) none none)) := by
  let E := g6E c d3 d4 (sV (.list (nL ps))) none (sV (lsD ls)) d8 none none none none
  have z : zipOfF [lsD ls, .list (nL ps)] = some ((ls.zip ps).map fun p => .tuple [rowD p.1, nI p.2]) := congrArg some (zip_map rowD nI ls ps)
  have cp : eCompZF (lCons (eVar 7) (lCons (eVar 5) lNil)) tg411 fYes (e2 dIx (eVar 4) (eVar 11)) [4, 11] E = .ret (.list ((pickR ls ps).map dD)) := by
    unfold eCompZF
    rw [lc2 (x := lsD ls) (y := .list (nL ps)) rfl rfl, bret, z]
    show endComp _ _ _ _ _ = _
    unfold endComp
    rw [if_pos (by rw [List.length_map, List.length_zip]; exact small_len (by omega)), comp_all (g := fun p => dD (p.1.getD p.2 (0, 0))) (ls.zip ps) fun p hp => ?_]
    · show Tr.ret (PyData.list _) = _
      unfold pickR
      rw [List.map_map]
      rfl
    · exact ⟨g6E c d3 (sV (rowD p.1)) (sV (.list (nL ps))) none (sV (lsD ls)) d8 none none (sV (nI p.2)) none, rfl, rfl, e2_r (x := rowD p.1) (y := nI p.2) rfl rfl (ix_row (getD_get (h p hp)))⟩
  show sPar _ _ _ _ _ _ _ = _
  unfold sPar
  rw [cb_r (x := rowD (pickR ls ps)) (lc1 cp) rfl]
  rfl
abbrev bAtP : FS := sSet 10 (e2 dAddA (e2 dMul (eVar 10) (eCB dLenA (lCons (eVar 4) lNil))) (eVar 11))
theorem at_walk2 {d3 d5 d7 d8 d9 : Option Slot} : ∀ (ps : List (List Deed × Nat)) (n : Nat) (d4 d11 : Option Slot), (∀ p ∈ ps, p.1.length ≤ 20) → ∃ e4 e11, forD tg411 bAtP (ps.map fun p => .tuple [rowD p.1, nI p.2]) (g6E c d3 d4 d5 none d7 d8 d9 (sV (nI n)) d11 none) = .ret (.nx (g6E c d3 e4 d5 none d7 d8 d9 (sV (nI (ps.foldl (fun n p => n * p.1.length + p.2) n))) e11 none))
  | [], n, d4, d11, _ => ⟨d4, d11, rfl⟩
  | p :: ps, n, d4, d11, h => by
    obtain ⟨e4, e11, q⟩ := at_walk2 (d3 := d3) (d5 := d5) (d7 := d7) (d8 := d8) (d9 := d9) ps (n * p.1.length + p.2) (sV (rowD p.1)) (sV (nI p.2)) fun x hx => h x (List.mem_cons_of_mem _ hx)
    let e1 := g6E c d3 (sV (rowD p.1)) d5 none d7 d8 d9 (sV (nI n)) (sV (nI p.2)) none
    have b : bAtP e1 = .ret (.nx (g6E c d3 (sV (rowD p.1)) d5 none d7 d8 d9 (sV (nI (n * p.1.length + p.2))) (sV (nI p.2)) none)) := set_nx (e2_r (e2_r (x := nI n) rfl (len_rowD (l := p.1) rfl) (nI_mulS (by have := h p List.mem_cons_self; omega))) (y := nI p.2) rfl nI_add)
    exact ⟨e4, e11, (forD_nx (env1 := e1) rfl b).trans q⟩
theorem great56_def : m_law_great_right56 = fnF 13 .v (sSeq g56_0 (sSeq g56_1 (sSeq g56_2 (sSeq g56_3 (sSeq g56_4 (sSeq g56_5 (sSeq g56_6 (sSeq g56_7 (sSeq g56_8 (fun env => g56__t9 (frz 6 env))))))))))) := rfl
theorem ok_great56 (h1 : 1 ≤ c) (h5 : c ≤ 5) : Ok (m_law_great_right56 [.orc, .val (nI c)]) 24 fun d => d = .bool true := by
  rw [great56_def]
  refine (ok_fn (m := 24) (P := fun d => d = .bool true) ?_).mono (Nat.le_refl _) fun d h => h
  refine ok_eq (seq_nx (gg0_ok h1)) ?_
  refine (ok_seq (n := 12) (m := 12) (P := fun e => ∃ its, (GapOk c its ∧ its.length = 12) ∧ e = g6E c (sV (gapD its)) none none none none none none none none none) (ok_g1 h1 h5) ?_).mono (by decide) fun _ h => h
  rintro e ⟨its, ⟨G, ln⟩, rfl⟩
  refine ok_eq (seq_nx (gg2_ok h1 h5 (by omega))) ?_
  let L := lotsG c its
  have lo := lots_ok h1 h5 G
  have l20 : ∀ l ∈ L, 1 ≤ l.length ∧ l.length ≤ 20 := fun l hl => ⟨(lo l hl).pos, (lo l hl).few h5⟩
  have lL : L.length = 12 := by rw [← ln]; exact lots_len
  obtain ⟨e4, w3⟩ := tot_walk (c := c) (d3 := sV (gapD its)) (d7 := sV (lsD L)) L 1 none fun l hl => (l20 l hl).2
  have s3 : g56_3 (g6E c (sV (gapD its)) none none none (sV (lsD L)) (sV (nI 1)) none none none none) = .ret (.nx (g6E c (sV (gapD its)) e4 none none (sV (lsD L)) (sV (nI (manyF L))) none none none none)) := (forS_l (ds := L.map rowD) rfl).trans w3
  refine ok_eq (seq_nx s3) ?_
  refine (ok_seq (n := 12) (m := 0) (P := fun e => ∃ ps : List Nat, (ps.length = L.length ∧ ∀ p ∈ L.zip ps, p.2 < p.1.length) ∧ e = g6E c (sV (gapD its)) e4 (sV (.list (nL ps))) none (sV (lsD L)) (sV (nI (manyF L))) none none none none) (ok_g4 (by omega) l20) ?_).mono (by decide) fun _ h => h
  rintro e ⟨ps, ⟨pl, pk⟩, rfl⟩
  refine ok_eq (seq_nx (gg5_ok (by omega) pk)) ?_
  let r := pickR L ps
  have fil : FilF L r := pick_fil L ps pl pk
  have rl : r.length = 12 := by rw [fil.1, lL]
  have rd : Ds c r := fun d hd => by
    obtain ⟨i, hi, rfl⟩ := List.getElem_of_mem hd
    have hz : i < (r.zip L).length := by rw [List.length_zip, ← fil.1]; omega
    have m := fil.2 _ (List.getElem_mem hz)
    rw [List.getElem_zip] at m
    exact (lo _ (List.getElem_mem _)).mem _ m
  obtain ⟨f4, f11, w6⟩ := at_walk2 (c := c) (d3 := sV (gapD its)) (d5 := sV (.list (nL ps))) (d7 := sV (lsD L)) (d8 := sV (nI (manyF L))) (d9 := sV (rowD r)) (L.zip ps) 0 e4 none fun p hp => (l20 _ (List.of_mem_zip (show (p.1, p.2) ∈ L.zip ps from hp)).1).2
  have en : (L.zip ps).foldl (fun n p => n * p.1.length + p.2) 0 = numF L r := (pick_num L ps 0 pl (fun l hl => (lo l hl).nodup) pk).symm
  rw [en] at w6
  let E6 : Option Slot → Ev := fun d6 => g6E c (sV (gapD its)) f4 (sV (.list (nL ps))) d6 (sV (lsD L)) (sV (nI (manyF L))) (sV (rowD r)) (sV (nI (numF L r))) f11 none
  have s6 : g56_6 (g6E c (sV (gapD its)) e4 (sV (.list (nL ps))) none (sV (lsD L)) (sV (nI (manyF L))) (sV (rowD r)) (sV (nI 0)) none none) = .ret (.nx (E6 none)) := by
    show sForZF _ _ _ _ = _
    unfold sForZF
    rw [lc2 (x := lsD L) (y := .list (nL ps)) rfl rfl, bret, show zipOfF [lsD L, .list (nL ps)] = some ((L.zip ps).map fun p => .tuple [rowD p.1, nI p.2]) from congrArg some (zip_map rowD nI L ps)]
    exact w6
  refine ok_eq (seq_nx s6) ?_
  obtain ⟨lt, at_⟩ := num_lt fil
  have nm := v_num h1 h5 G (by omega) rd
  rw [if_pos fil] at nm
  have s7 : g56_7 (E6 none) = .ret (.nx (E6 (some (.own (.list [nI (manyF L), nI (numF L r)]))))) := by
    show sSetO 6 _ _ = _
    unfold sSetO
    rw [lst2 (call_r (aC (d := nI c) rfl (a1 (d := gapD its) rfl)) (v_many h1 h5 G)) (call_r (aC (d := nI c) rfl (aC (d := gapD its) rfl (a1 (d := rowD r) rfl))) nm)]
    rfl
  have s8 : g56_8 (E6 (some (.own (.list [nI (manyF L), nI (numF L r)])))) = .ret (.nx (E6 (some (.own (.list [nI (manyF L), nI (numF L r), rowD r]))))) := (sApp_n (ds := [nI (manyF L), nI (numF L r)]) (z := rowD r) rfl (call_r (aC (d := nI c) rfl (aC (d := gapD its) rfl (a1 (d := nI (numF L r)) rfl))) (v_at h1 h5 G at_)) (show 2 < 1000 by decide)).trans rfl
  refine ok_eq (seq_nx s7) ?_
  refine ok_eq (seq_nx s8) ?_
  have big : manyF L < 2 ^ 1900 := by
    have a := many_le L fun l hl => (l20 l hl).2
    rw [lL] at a
    have b : 20 ^ 12 < 2 ^ 60 := by decide
    exact Nat.lt_of_lt_of_le (Nat.lt_of_le_of_lt a b) (Nat.pow_le_pow_right (by decide) (by decide))
  let T : D := .list [nI (manyF L), nI (numF L r), rowD r]
  have sh : Sh T 3 40000 := (Sh.list (k := 2) (w := 1921) (xs := [nI (manyF L), nI (numF L r), rowD r]) (n := 3) (fun x hx => by
    simp only [List.mem_cons, List.not_mem_nil, or_false] at hx
    rcases hx with rfl | rfl | rfl
    · exact (sh_big big).mono (by decide) (by decide)
    · exact (sh_big (Nat.lt_trans lt big)).mono (by decide) (by decide)
    · exact (sh_rowD (n := 12) (fun d hd => five_of h1 h5 (rd d hd)) (by omega)).mono (by decide) (by decide)) (Nat.le_refl 3)).mono (by decide) (by decide)
  have fin : g56__t9 (frz 6 (E6 (some (.own T)))) = .ret (.rv (.bool true)) := ret_rv (call_r (aC (d := T) rfl (a1 (d := T) rfl)) (v_likeW sh (by decide) (by decide) rfl))
  exact Ok.of fin ⟨_, rfl, rfl⟩
end
end FL
end
section
set_option linter.all false
set_option maxRecDepth 100000
namespace FL
open PySem PySem.Spec PyProof.Rows L2 DL FM ZS
def btw (d e : Deed) : List Deed := if d = e then [d] else if ltP d e then [d, e] else [e, d]
def kdD (d : Deed) : Str × Int := (keyOfD (dD d)).getD (Str.ofString "", 0)
def kdB (d : Deed) : Bool := (keyOfD (dD d)).isSome
theorem kd_all : ((full 5).all kdB) = true := by decide +kernel
theorem kd_ok {d : Deed} (h : d ∈ full 5) : keyOfD (dD d) = some (kdD d) := by
  have q := List.all_eq_true.mp kd_all d h
  unfold kdB at q
  unfold kdD
  cases e : keyOfD (dD d) with
  | none => rw [e] at q; cases q
  | some k => rfl
theorem kd_dd {d : Deed} (h : d ∈ full 5) : dd (kdD d) = dD d := (keyOfD_dd (kd_ok h)).symm
theorem kd_le {d e : Deed} (hd : d ∈ full 5) (he : e ∈ full 5) : leK (kdD d) (kdD e) = !decide (ltP e d) := by
  show (!PySem.W.dataLt (dd (kdD e)) (dd (kdD d))) = _
  rw [kd_dd hd, kd_dd he, (lt_dD he hd).1]
theorem kd_inj {d e : Deed} (hd : d ∈ full 5) (he : e ∈ full 5) (h : kdD d = kdD e) : d = e := by
  have q : dD d = dD e := by rw [← kd_dd hd, ← kd_dd he, h]
  have z := eqv_deed hd he
  rw [q, eqv_deed he he, decide_eq_true rfl] at z
  exact of_decide_eq_true z.symm
theorem sort_two {k k' : Str × Int} (h : leK k k' = true) : [k, k'].mergeSort leK = [k, k'] := List.mergeSort_of_pairwise (by
  refine List.pairwise_cons.mpr ⟨fun x hx => ?_, List.pairwise_singleton _ _⟩
  rw [List.mem_singleton.mp hx]
  exact h)
theorem sort_b {d e : Deed} (hd : d ∈ full 5) (he : e ∈ full 5) : dSortS2 (dD d) (dD e) = some (.list ((btw d e).map dD)) := by
  unfold dSortS2 btw
  rw [kd_ok hd, kd_ok he]
  dsimp only
  by_cases h : d = e
  · subst h
    rw [if_pos rfl, if_pos rfl, List.mergeSort_singleton]
    show some (PyData.list [dd (kdD d)]) = _
    rw [kd_dd hd]
    rfl
  · rw [if_neg fun z => h (kd_inj hd he z.symm), if_neg h]
    by_cases l : ltP d e
    · have le : leK (kdD d) (kdD e) = true := by rw [kd_le hd he, decide_eq_false fun z => ltP_asym l z]; rfl
      rw [if_pos l, sort_pm (List.Perm.swap (kdD d) (kdD e) []), sort_two le]
      show some (PyData.list [dd (kdD d), dd (kdD e)]) = _
      rw [kd_dd hd, kd_dd he]
      rfl
    · have le : leK (kdD e) (kdD d) = true := by rw [kd_le he hd, decide_eq_false l]; rfl
      rw [if_neg l, sort_two le]
      show some (PyData.list [dd (kdD e), dd (kdD d)]) = _
      rw [kd_dd hd, kd_dd he]
      rfl
theorem min_b {d e : Deed} (hd : d ∈ full 5) (he : e ∈ full 5) : dMin2D [dD d, dD e] = some (dD (if ltP e d then e else d)) := by
  show (match keyOfD (dD d), keyOfD (dD e) with
    | some k, some k' => some (if leK k k' = true then dD d else dD e)
    | _, _ => dMin2 [dD d, dD e]) = _
  rw [kd_ok hd, kd_ok he]
  dsimp only
  rw [kd_le hd he]
  by_cases l : ltP e d
  · rw [decide_eq_true l, if_pos l]
    rfl
  · rw [decide_eq_false l, if_neg l]
    rfl
theorem max_b {d e : Deed} (hd : d ∈ full 5) (he : e ∈ full 5) : dMax2D [dD d, dD e] = some (dD (if ltP d e then e else d)) := by
  show (match keyOfD (dD d), keyOfD (dD e) with
    | some k, some k' => some (if leK k' k = true then dD d else dD e)
    | _, _ => dMax2 [dD d, dD e]) = _
  rw [kd_ok hd, kd_ok he]
  dsimp only
  rw [kd_le he hd]
  by_cases l : ltP d e
  · rw [decide_eq_true l, if_pos l]
    rfl
  · rw [decide_eq_false l, if_neg l]
    rfl
def eq2B (d e : Deed) : Bool := match dEq (dD d) (dD e) with
  | some (.bool b) => b == decide (d = e)
  | _ => false
theorem eq2_all : ((full 5).all fun d => (full 5).all fun e => eq2B d e) = true := by decide +kernel
theorem eq_dD {d e : Deed} (hd : d ∈ full 5) (he : e ∈ full 5) : dEq (dD d) (dD e) = some (.bool (decide (d = e))) := by
  have h := List.all_eq_true.mp (List.all_eq_true.mp eq2_all d hd) e he
  unfold eq2B at h
  split at h
  · rename_i b eq
    rw [eq, beq_iff_eq.mp h]
  · cases h
theorem ok_cRowT {c M : Nat} (hM : M ≤ 40) {F : D} {L : List D} (h0 : L ≠ []) (hl : L.length < 1000) : Ok (cRow (rE c M F (.list L))) (M + 1) fun d => ∃ ys, d = .list ys ∧ ys.length ≤ M ∧ ∀ y ∈ ys, y ∈ L := by
  have q1 : Ok (lCons (eCall m_law_draw (aOrc 0 (aVal (e2 dAddA (eVar 3) (eC (.int 1))) aNil))) lNil (rE c M F (.list L))) 1 fun ds => ∃ d, ds = [d] ∧ ∃ i, i < M + 1 ∧ d = nI i := ok_l1 (ok_callr (aO rfl (a1 (e2_r (x := nI M) (y := nI 1) rfl rfl nI_add))) (ok_draw (l := M + 1) (by omega) (by omega)))
  unfold cRow
  refine (ok_compR (m := M) q1 ?_).mono (by omega) fun _ h => h
  rintro ds ⟨d, rfl, i, hi, rfl⟩
  refine ⟨0, i, rngOf_n (by omega), ?_⟩
  have q := end_ok (tgt := gN 5) (t := fYes) (fe := eCall m_law_of (aOrc 0 (aVal (eVar 4) aNil))) (env := wipeE (rE c M F (.list L)) [5]) (P := fun y => y ∈ L) (k := 1) (ds := rngD 0 i) (by rw [rng_n, List.length_map, List.length_range]; omega) fun d _ => ⟨(wipeE (rE c M F (.list L)) [5]).set 5 (some (.val d)), rfl, rfl, by
    show Ok (m_law_of [.orc, .val (.list L)]) 1 _
    exact ok_of h0 hl⟩
  have ll : (rngD 0 i).length = i := by rw [rng_n, List.length_map, List.length_range]
  rw [ll] at q
  refine q.mono (by omega) ?_
  rintro d ⟨ys, e, l, hy⟩
  exact ⟨ys, e, by omega, hy⟩
theorem ok_rowT {c M : Nat} (hM : M ≤ 40) (h1 : 1 ≤ c) (h5 : c ≤ 5) {ws : List Nat} (hw : ws ∈ fams) : Ok (m_law_row [.orc, .val (nI c), .val (famD ws), .val (nI M)]) (M + 1) fun d => ∃ ds, d = rowD ds ∧ ds.length ≤ M ∧ ∀ d ∈ ds, d ∈ deedsOf c [0, 1, 2, 3] := by
  obtain ⟨f1, f2, f3⟩ := fam_ok h1 h5 hw
  have e : m_law_row = fnF 6 .v (sSeq (sSet 4 (eCall m_law_deeds (aVal (eVar 1) (aVal (eVar 2) aNil)))) (sSeq (sIf (tt (e2 dEq (eVar 4) (eLst lNil))) (sRet (eTup lNil)) sNext) (sRet (eCB dTuple (lCons cRow lNil))))) := rfl
  rw [e]
  refine ok_fn ?_
  have s1 : sSet 4 (eCall m_law_deeds (aVal (eVar 1) (aVal (eVar 2) aNil))) (startE 6 [.orc, .val (nI c), .val (famD ws), .val (nI M)]) = .ret (.nx (rE c M (famD ws) (.list ((deedsOf c ws).map dD)))) := set_nx (call_r (aC (d := nI c) rfl (a1 (d := famD ws) rfl)) f1)
  rw [seq_nx s1]
  have t : tt (e2 dEq (eVar 4) (eLst lNil)) (rE c M (famD ws) (.list ((deedsOf c ws).map dD))) = .ret (deedsOf c ws).isEmpty := tt_b (e2_r (x := .list ((deedsOf c ws).map dD)) (y := .list []) rfl rfl f2)
  by_cases z : deedsOf c ws = []
  · have ze : (deedsOf c ws).isEmpty = true := by rw [z]; rfl
    rw [ze] at t
    have r : sSeq (sIf (tt (e2 dEq (eVar 4) (eLst lNil))) (sRet (eTup lNil)) sNext) (sRet (eCB dTuple (lCons cRow lNil))) (rE c M (famD ws) (.list ((deedsOf c ws).map dD))) = .ret (.rv (rowD [])) := seq_rv ((if_yes t).trans rfl)
    exact (Ok.of r ⟨rowD [], rfl, [], rfl, Nat.zero_le _, fun _ h => nomatch h⟩).mono (Nat.zero_le _) fun _ h => h
  · have : (deedsOf c ws).isEmpty = false := by simpa using z
    rw [this] at t
    rw [seq_nx ((if_no t).trans rfl)]
    refine ok_sret ?_
    refine ok_cb1 (ok_cRowT hM (c := c) (F := famD ws) (L := (deedsOf c ws).map dD) (by simpa using z) (by
      rw [List.length_map]
      have := deeds_few (c := c) h5 (fams_len ws hw)
      omega)) ?_
    rintro d ⟨ys, rfl, l, hy⟩
    obtain ⟨ds, e, hd⟩ := deeds_of hy
    refine ⟨.tuple ys, rfl, ds, by rw [e]; rfl, ?_, fun d h => f3 d (hd d h)⟩
    rw [e, List.length_map] at l
    exact l
end FL
end
section
set_option linter.all false
set_option maxRecDepth 100000
namespace FL
open PySem PySem.Spec PyProof.Rows L2 DL FM ZS
abbrev b56_0 : FS := (sSet 2 words4)
abbrev b56_1 : FS := (sAsg (eTup (lCons (eCall m_law_row (aOrc 0 (aVal (eVar 1) (aVal (eVar 2) (aVal (eC (.int 12)) aNil))))) (lCons (eCall m_law_deeds (aVal (eVar 1) (aVal (eVar 2) aNil))) lNil))) (gT 2 (gsCons (gN 6) (gsCons (gN 7) gsNil))))
abbrev b56_2 : FS := (sSet 3 (eCB dTuple (lCons (eCompS (eVar 6) (gN 10) fYes (eIf (tt (e2 dEq (eCall m_law_draw (aOrc 0 (aVal (eC (.int 2)) aNil))) (eC (.int 0)))) (eVar 10) (eCall m_law_of (aOrc 0 (aVal (eVar 7) aNil)))) [10]) lNil)))
abbrev b56_3 : FS := (sSetO 4 (eLst lNil))
abbrev b56_4 : FS := (sForZF (lCons (eVar 6) (lCons (eVar 3) lNil)) (gT 2 (gsCons (gN 8) (gsCons (gN 9) gsNil))) (sApp 4 (eIf (tt (e2 dEq (eVar 8) (eVar 9))) (eTup (lCons (eVar 8) lNil)) (eTup (lCons (eCB dMin2D (lCons (eVar 8) (lCons (eVar 9) lNil))) (lCons (eCB dMax2D (lCons (eVar 8) (lCons (eVar 9) lNil))) lNil))))))
abbrev b56_5 : FS := (sSet 5 (eLst (lCons (eCall m_gapped_between (aVal (eVar 1) (aVal (eVar 6) (aVal (eVar 3) aNil)))) (lCons (eCall m_gapped_between (aReo 3 [2, 1, 0] (aVal (eVar 3) (aVal (eVar 6) (aVal (eVar 1) aNil))))) lNil))))
abbrev b56_6 : FS := (sRet (eCall m_law_like (aVal (eVar 5) (aVal (e2 dRep (eLst (lCons (eCB dTuple (lCons (eVarB 4) lNil)) lNil)) (eC (.int 2))) aNil))))
abbrev gb56_0 : FS := (sExpr (eCall m_need_cords (aVal (eVar 0) aNil)))
abbrev gb56_1 : FS := (sExpr (eCall m_need_row52 (aVal (eVar 0) (aVal (eVar 1) aNil))))
abbrev gb56_2 : FS := (sIf (tt (e2 dGt (eCB dLenA (lCons (eVar 1) lNil)) (eC (.int 12)))) (fun _ => .fail) sNext)
abbrev gb56_3 : FS := (sExpr (eCall m_need_row52 (aVal (eVar 0) (aVal (eVar 2) aNil))))
abbrev gb56_4 : FS := (sIf (tt (e2 dNe (eCB dLenA (lCons (eVar 2) lNil)) (eCB dLenA (lCons (eVar 1) lNil)))) (fun _ => .fail) sNext)
abbrev gb56_5 : FS := (sRet (eCB dTuple (lCons (eCompZF (lCons (eVar 1) (lCons (eVar 2) lNil)) (gT 2 (gsCons (gN 3) (gsCons (gN 4) gsNil))) fYes (eCB dTuple (lCons (e2 dSortS2 (eVar 3) (eVar 4)) lNil)) [3, 4]) lNil)))
section
variable {c : Nat} {r s : List Deed}
def rowsB (r s : List Deed) : List (List Deed) := (r.zip s).map fun p => btw p.1 p.2
def btD (r s : List Deed) : D := .tuple ((rowsB r s).map rowD)
theorem btw_mem {d e x : Deed} (h : x ∈ btw d e) : x = d ∨ x = e := by
  unfold btw at h
  by_cases z : d = e
  · rw [if_pos z] at h
    exact .inl (List.mem_singleton.mp h)
  · rw [if_neg z] at h
    by_cases l : ltP d e
    · rw [if_pos l] at h
      simpa using h
    · rw [if_neg l] at h
      rcases (by simpa using h : x = e ∨ x = d) with h | h
      · exact .inr h
      · exact .inl h
theorem btw_len {d e : Deed} : (btw d e).length ≤ 2 := by
  unfold btw
  split
  · exact Nat.le_succ 1
  · split <;> exact Nat.le_refl 2
abbrev tg34c : FG := gT 2 (gsCons (gN 3) (gsCons (gN 4) gsNil))
theorem v_btw (h1 : 1 ≤ c) (h5 : c ≤ 5) (hl : r.length ≤ 12) (he : s.length = r.length) (hr : Ds c r) (hs : Ds c s) : m_gapped_between [.val (nI c), .val (rowD r), .val (rowD s)] = .ret (btD r s) := by
  let e0 : Ev := startE 5 [.val (nI c), .val (rowD r), .val (rowD s)]
  have l1 : eCB dLenA (lCons (eVar 1) lNil) e0 = .ret (nI r.length) := len_rowD (l := r) rfl
  have l2 : eCB dLenA (lCons (eVar 2) lNil) e0 = .ret (nI s.length) := len_rowD (l := s) rfl
  have s0 : gb56_0 e0 = .ret (.nx e0) := expr_nx (call_r (a1 (d := nI c) rfl) (v_need_cords h1 h5))
  have s1 : gb56_1 e0 = .ret (.nx e0) := expr_nx (call_r (aC (d := nI c) rfl (a1 (d := rowD r) rfl)) (v_need_row52 h1 h5 (by omega) hr))
  have s2 : gb56_2 e0 = .ret (.nx e0) := by
    refine (if_no (tt_b (e2_r (d := .bool false) l1 (y := nI 12) rfl ?_))).trans rfl
    show some (PyData.bool (decide (((r.length : Nat) : Int) > ((12 : Nat) : Int)))) = _
    rw [decide_eq_false (by omega)]
  have s3 : gb56_3 e0 = .ret (.nx e0) := expr_nx (call_r (aC (d := nI c) rfl (a1 (d := rowD s) rfl)) (v_need_row52 h1 h5 (by omega) hs))
  have s4 : gb56_4 e0 = .ret (.nx e0) := (if_no (tt_b (e2_r l2 l1 (by rw [nI_ne, decide_eq_true he]; rfl)))).trans rfl
  have cp : eCompZF (lCons (eVar 1) (lCons (eVar 2) lNil)) tg34c fYes (eCB dTuple (lCons (e2 dSortS2 (eVar 3) (eVar 4)) lNil)) [3, 4] e0 = .ret (.list ((rowsB r s).map rowD)) := by
    unfold eCompZF
    rw [lc2 (x := rowD r) (y := rowD s) rfl rfl, bret, show zipOfF [rowD r, rowD s] = some ((r.zip s).map fun p => .tuple [dD p.1, dD p.2]) from congrArg some (zip_map dD dD r s)]
    show endComp _ _ _ _ _ = _
    unfold endComp
    rw [if_pos (by rw [List.length_map, List.length_zip]; exact small_len (by omega)), comp_all (g := fun p => rowD (btw p.1 p.2)) (r.zip s) fun p hp => ?_]
    · show Tr.ret (PyData.list _) = _
      unfold rowsB
      rw [List.map_map]
      rfl
    · have m := List.of_mem_zip (show (p.1, p.2) ∈ r.zip s from hp)
      exact ⟨[sV (nI c), sV (rowD r), sV (rowD s), sV (dD p.1), sV (dD p.2)], rfl, rfl, cb_r (lc1 (e2_r (x := dD p.1) (y := dD p.2) rfl rfl (sort_b (five_of h1 h5 (hr _ m.1)) (five_of h1 h5 (hs _ m.2))))) rfl⟩
  have e : m_gapped_between = fnF 5 .v (sSeq gb56_0 (sSeq gb56_1 (sSeq gb56_2 (sSeq gb56_3 (sSeq gb56_4 gb56_5))))) := rfl
  rw [e]
  exact fn_v ((seq_nx s0).trans ((seq_nx s1).trans ((seq_nx s2).trans ((seq_nx s3).trans ((seq_nx s4).trans (ret_rv (cb_r (lc1 cp) rfl)))))))
def b6E (c : Nat) (d3 d4 d5 d6 d7 d8 d9 d10 : Option Slot) : Ev := [some .orc, sV (nI c), sV (famD [0, 1, 2, 3]), d3, d4, d5, d6, d7, d8, d9, d10]
theorem ok_w1 (h1 : 1 ≤ c) (h5 : c ≤ 5) : Ok (b56_1 (b6E c none none none none none none none none)) 13 fun o => ∃ e, o = .nx e ∧ ∃ r, (r.length ≤ 12 ∧ Ds c r) ∧ e = b6E c none none none (sV (rowD r)) (sV (liD (full c))) none none none := by
  let E := b6E c none none none none none none none none
  have q := ok_lcons (P := fun d => ∃ ds, d = rowD ds ∧ ds.length ≤ 12 ∧ ∀ d ∈ ds, d ∈ deedsOf c [0, 1, 2, 3]) (Q := fun xs => xs = [liD (full c)]) (n := 13) (m := 0) (f := eCall m_law_row (aOrc 0 (aVal (eVar 1) (aVal (eVar 2) (aVal (eC (.int 12)) aNil))))) (r := lCons (eCall m_law_deeds (aVal (eVar 1) (aVal (eVar 2) aNil))) lNil) (env := E) (ok_callr (aO rfl (aC (d := nI c) rfl (aC (d := famD [0, 1, 2, 3]) rfl (a1 (d := nI 12) rfl)))) (ok_rowT (M := 12) (by decide) h1 h5 fam4)) (Ok.of (lc1 (call_r (aC (d := nI c) rfl (a1 (d := famD [0, 1, 2, 3]) rfl)) (v_ldeeds h1 h5))) rfl)
  refine (ok_asg2 (n := 13) (P := fun x y => (∃ r, (r.length ≤ 12 ∧ Ds c r) ∧ x = rowD r) ∧ y = liD (full c)) ((ok_tup q ?_).mono (Nat.le_refl _) ?_)).mono (Nat.le_refl _) ?_
  · rintro ds ⟨x, xs, rfl, _, rfl⟩
    show 2 ≤ 100
    decide
  · rintro d ⟨ds, rfl, x, xs, rfl, ⟨r, rfl, a, b⟩, rfl⟩
    exact ⟨_, _, rfl, ⟨r, ⟨a, b⟩, rfl⟩, rfl⟩
  · rintro o ⟨e, eo, x, y, ⟨⟨r, h, rfl⟩, rfl⟩, ee⟩
    exact ⟨e, eo, r, h, ee⟩
theorem ok_w2 (h1 : 1 ≤ c) (h5 : c ≤ 5) (hl : r.length ≤ 12) (hr : Ds c r) : Ok (b56_2 (b6E c none none none (sV (rowD r)) (sV (liD (full c))) none none none)) 24 fun o => ∃ e, o = .nx e ∧ ∃ s, (s.length = r.length ∧ Ds c s) ∧ e = b6E c (sV (rowD s)) none none (sV (rowD r)) (sV (liD (full c))) none none none := by
  let E := b6E c none none none (sV (rowD r)) (sV (liD (full c))) none none none
  have lo := (full_ok h1 h5).1
  have fl := lo.few h5
  have cp : Ok (eCompS (eVar 6) (gN 10) fYes (eIf (tt (e2 dEq (eCall m_law_draw (aOrc 0 (aVal (eC (.int 2)) aNil))) (eC (.int 0)))) (eVar 10) (eCall m_law_of (aOrc 0 (aVal (eVar 7) aNil)))) [10] E) 24 fun d => ∃ s : List Deed, d = liD s ∧ s.length = r.length ∧ Ds c s := by
    rw [compS_any (d := rowD r) (ds := r.map dD) rfl rfl]
    refine (end_pw (g := dD) (R := fun (_ : Deed) z => z ∈ full c) (k := 2) (by omega) fun d hd => ?_).mono (by omega) ?_
    · refine ⟨b6E c none none none (sV (rowD r)) (sV (liD (full c))) none none (sV (dD d)), rfl, rfl, ?_⟩
      unfold eIf
      refine (Ok.bind (n := 1) (m := 1) (P := fun _ => True) (ok_tt (ok_e2l (Q := fun d => ∃ b, d = .bool b) (ok_drawE (l := 2) rfl rfl (by decide) (by decide)) (y := nI 0) rfl ?_)) fun b _ => ?_).mono (by decide) fun _ h => h
      · rintro x ⟨k, _, rfl⟩
        exact ⟨_, nI_eq, _, rfl⟩
      · cases b
        · refine (ok_callr (aO rfl (a1 (d := liD (full c)) rfl)) (ok_of (L := (full c).map dD) (by simpa using lo.ne) (by rw [List.length_map]; omega))).mono (Nat.le_refl _) ?_
          intro y hy
          obtain ⟨z, hz, rfl⟩ := List.mem_map.mp hy
          exact ⟨z, rfl, hz⟩
        · exact (Ok.of (a := dD d) rfl ⟨d, rfl, hr d hd⟩).mono (by decide) fun _ h => h
    · rintro d ⟨zs, rfl, l, h⟩
      refine ⟨zs, rfl, l, fun z hz => ?_⟩
      obtain ⟨i, hi, rfl⟩ := List.getElem_of_mem hz
      have hz : i < (r.zip zs).length := by rw [List.length_zip, l]; omega
      have m := h _ (List.getElem_mem hz)
      rw [List.getElem_zip] at m
      exact m
  refine (ok_set (ok_cb1 (Q := fun d => ∃ s, (s.length = r.length ∧ Ds c s) ∧ d = rowD s) cp ?_)).mono (Nat.le_refl _) ?_
  · rintro d ⟨s, rfl, l, h⟩
    exact ⟨rowD s, rfl, s, ⟨l, h⟩, rfl⟩
  · rintro o ⟨e, eo, d, ⟨s, h, rfl⟩, ee⟩
    exact ⟨e, eo, s, h, ee⟩
abbrev bBt : FS := sApp 4 (eIf (tt (e2 dEq (eVar 8) (eVar 9))) (eTup (lCons (eVar 8) lNil)) (eTup (lCons (eCB dMin2D (lCons (eVar 8) (lCons (eVar 9) lNil))) (lCons (eCB dMax2D (lCons (eVar 8) (lCons (eVar 9) lNil))) lNil))))
abbrev tg89 : FG := gT 2 (gsCons (gN 8) (gsCons (gN 9) gsNil))
theorem bt_walk {d3 d6 d7 : Option Slot} : ∀ (ps : List (Deed × Deed)) (acc : List (List Deed)) (d8 d9 : Option Slot), acc.length + ps.length ≤ 900 → (∀ p ∈ ps, p.1 ∈ full 5 ∧ p.2 ∈ full 5) → ∃ e8 e9, forD tg89 bBt (ps.map fun p => .tuple [dD p.1, dD p.2]) (b6E c d3 (some (.own (lsD acc))) none d6 d7 d8 d9 none) = .ret (.nx (b6E c d3 (some (.own (lsD (acc ++ ps.map fun p => btw p.1 p.2)))) none d6 d7 e8 e9 none))
  | [], acc, d8, d9, _, _ => ⟨d8, d9, by
      have e : acc ++ ([] : List (Deed × Deed)).map (fun p => btw p.1 p.2) = acc := List.append_nil acc
      rw [e]
      rfl⟩
  | p :: ps, acc, d8, d9, few, h => by
    rw [List.length_cons] at few
    obtain ⟨hd, he⟩ := h p List.mem_cons_self
    obtain ⟨e8, e9, q⟩ := bt_walk (d3 := d3) (d6 := d6) (d7 := d7) ps (acc ++ [btw p.1 p.2]) (sV (dD p.1)) (sV (dD p.2)) (by rw [List.length_append]; show acc.length + 1 + _ ≤ 900; omega) fun x hx => h x (List.mem_cons_of_mem _ hx)
    let e1 := b6E c d3 (some (.own (lsD acc))) none d6 d7 (sV (dD p.1)) (sV (dD p.2)) none
    have t : tt (e2 dEq (eVar 8) (eVar 9)) e1 = .ret (decide (p.1 = p.2)) := tt_b (e2_r (x := dD p.1) (y := dD p.2) rfl rfl (eq_dD hd he))
    have v : eIf (tt (e2 dEq (eVar 8) (eVar 9))) (eTup (lCons (eVar 8) lNil)) (eTup (lCons (eCB dMin2D (lCons (eVar 8) (lCons (eVar 9) lNil))) (lCons (eCB dMax2D (lCons (eVar 8) (lCons (eVar 9) lNil))) lNil))) e1 = .ret (rowD (btw p.1 p.2)) := by
      unfold btw
      by_cases z : p.1 = p.2
      · rw [decide_eq_true z] at t
        rw [if_pos z]
        exact (eif_yes t).trans (tup1 (x := dD p.1) rfl)
      · rw [decide_eq_false z] at t
        rw [if_neg z]
        refine (eif_no t).trans ((tup2 (cb_r (lc2 (x := dD p.1) (y := dD p.2) rfl rfl) (min_b hd he)) (cb_r (lc2 (x := dD p.1) (y := dD p.2) rfl rfl) (max_b hd he))).trans ?_)
        by_cases l : ltP p.1 p.2
        · rw [if_neg fun g => ltP_asym l g, if_pos l, if_pos l]
          rfl
        · have g : ltP p.2 p.1 := (ltP_tot z).resolve_left l
          rw [if_pos g, if_neg l, if_neg l]
          rfl
    have b : bBt e1 = .ret (.nx (b6E c d3 (some (.own (lsD (acc ++ [btw p.1 p.2])))) none d6 d7 (sV (dD p.1)) (sV (dD p.2)) none)) := by
      refine (sApp_n (ds := acc.map rowD) (z := rowD (btw p.1 p.2)) rfl v (by rw [List.length_map]; omega)).trans ?_
      unfold lsD
      rw [List.map_append]
      rfl
    refine ⟨e8, e9, (forD_nx (env1 := e1) rfl b).trans (q.trans ?_)⟩
    rw [List.map_cons, List.append_assoc]
    rfl
theorem between_def : m_law_between_right = fnF 11 .v (sSeq b56_0 (sSeq b56_1 (sSeq b56_2 (sSeq b56_3 (sSeq b56_4 (sSeq b56_5 b56_6)))))) := rfl
theorem ok_between56 (h1 : 1 ≤ c) (h5 : c ≤ 5) : Ok (m_law_between_right [.orc, .val (nI c)]) 37 fun d => d = .bool true := by
  rw [between_def]
  refine (ok_fn (m := 37) (P := fun d => d = .bool true) ?_).mono (Nat.le_refl _) fun d h => h
  have s0 : b56_0 (startE 11 [.orc, .val (nI c)]) = .ret (.nx (b6E c none none none none none none none none)) := set_nx words4_r
  refine ok_eq (seq_nx s0) ?_
  refine (ok_seq (n := 13) (m := 24) (P := fun e => ∃ r, (r.length ≤ 12 ∧ Ds c r) ∧ e = b6E c none none none (sV (rowD r)) (sV (liD (full c))) none none none) (ok_w1 h1 h5) ?_).mono (by decide) fun _ h => h
  rintro e ⟨r, ⟨hl, hr⟩, rfl⟩
  refine (ok_seq (n := 24) (m := 0) (P := fun e => ∃ s, (s.length = r.length ∧ Ds c s) ∧ e = b6E c (sV (rowD s)) none none (sV (rowD r)) (sV (liD (full c))) none none none) (ok_w2 h1 h5 hl hr) ?_).mono (by decide) fun _ h => h
  rintro e ⟨s, ⟨hs, hd⟩, rfl⟩
  have s3 : b56_3 (b6E c (sV (rowD s)) none none (sV (rowD r)) (sV (liD (full c))) none none none) = .ret (.nx (b6E c (sV (rowD s)) (some (.own (lsD []))) none (sV (rowD r)) (sV (liD (full c))) none none none)) := rfl
  refine ok_eq (seq_nx s3) ?_
  have m5 : ∀ p ∈ r.zip s, p.1 ∈ full 5 ∧ p.2 ∈ full 5 := fun p hp => by
    have m := List.of_mem_zip (show (p.1, p.2) ∈ r.zip s from hp)
    exact ⟨five_of h1 h5 (hr _ m.1), five_of h1 h5 (hd _ m.2)⟩
  obtain ⟨e8, e9, w⟩ := bt_walk (c := c) (d3 := sV (rowD s)) (d6 := sV (rowD r)) (d7 := sV (liD (full c))) (r.zip s) [] none none (by rw [List.length_zip]; show 0 + _ ≤ 900; omega) m5
  have s4 : b56_4 (b6E c (sV (rowD s)) (some (.own (lsD []))) none (sV (rowD r)) (sV (liD (full c))) none none none) = .ret (.nx (b6E c (sV (rowD s)) (some (.own (lsD (rowsB r s)))) none (sV (rowD r)) (sV (liD (full c))) e8 e9 none)) := by
    show sForZF _ _ _ _ = _
    unfold sForZF
    rw [lc2 (x := rowD r) (y := rowD s) rfl rfl, bret, show zipOfF [rowD r, rowD s] = some ((r.zip s).map fun p => .tuple [dD p.1, dD p.2]) from congrArg some (zip_map dD dD r s)]
    exact w
  refine ok_eq (seq_nx s4) ?_
  have vb := v_btw h1 h5 hl hs hr hd
  let T : D := .list [btD r s, btD r s]
  have s5 : b56_5 (b6E c (sV (rowD s)) (some (.own (lsD (rowsB r s)))) none (sV (rowD r)) (sV (liD (full c))) e8 e9 none) = .ret (.nx (b6E c (sV (rowD s)) (some (.own (lsD (rowsB r s)))) (sV T) (sV (rowD r)) (sV (liD (full c))) e8 e9 none)) :=
    set_nx (lst2 (call_r (aC (d := nI c) rfl (aC (d := rowD r) rfl (a1 (d := rowD s) rfl))) vb) (call3R (x := rowD s) (y := rowD r) (z := nI c) rfl rfl rfl vb))
  refine ok_eq (seq_nx s5) ?_
  have rb : (rowsB r s).length ≤ 12 := by unfold rowsB; rw [List.length_map, List.length_zip]; omega
  have sb : Sh (btD r s) 3 1000 := (Sh.tuple (xs := (rowsB r s).map rowD) (k := 2) (w := 45) (n := 12) (fun x hx => by
    obtain ⟨l, hl, rfl⟩ := List.mem_map.mp hx
    obtain ⟨p, hp, rfl⟩ := List.mem_map.mp hl
    have m := m5 p hp
    exact sh_rowD (n := 2) (fun d hd => (btw_mem hd).elim (fun e => e ▸ m.1) fun e => e ▸ m.2) btw_len) (by rw [List.length_map]; exact rb)).mono (by decide) (by decide)
  have sh : Sh T 4 3000 := (Sh.list (xs := [btD r s, btD r s]) (n := 2) (fun x hx => by
    have e : x = btD r s := by simpa using hx
    rw [e]
    exact sb) (Nat.le_refl 2)).mono (by decide) (by decide)
  have due : e2 dRep (eLst (lCons (eCB dTuple (lCons (eVarB 4) lNil)) lNil)) (eC (.int 2)) (b6E c (sV (rowD s)) (some (.own (lsD (rowsB r s)))) (sV T) (sV (rowD r)) (sV (liD (full c))) e8 e9 none) = .ret T :=
    e2_r (lst1 (cb_r (x := btD r s) (lc1 (d := lsD (rowsB r s)) rfl) rfl)) (y := .int 2) rfl rfl
  exact Ok.of (ret_rv (call_r (aC (d := T) rfl (a1 due)) (v_likeW sh (by decide) (by decide) rfl))) ⟨_, rfl, rfl⟩
end
end FL
end
section
set_option linter.all false
set_option maxRecDepth 100000
namespace FL
open PySem PySem.Spec PyProof.Rows L2 DL FM ZS
abbrev y56_0 : FS := (sSet 3 (eCall m_law_of (aOrc 1 (aVal (eLst (lCons (eC (.int 2)) (lCons (eC (.int 3)) (lCons (eC (.int 1)) (lCons (eC (.int 3)) (lCons (eC (.int 4)) lNil)))))) aNil))))
abbrev y56_1 : FS := (sIf (bNot (tt (eCall m_law_all_right56 (aOrc 1 (aVal (eVar 3) (aVal (eCall m_law_items (aOrc 1 (aVal (eVar 3) (aVal (eC (.int 5)) (aVal (eC (.int 150)) aNil))))) aNil)))))) (sRet (eC (.bool false))) sNext)
abbrev y56_2 : FS := (sIf (bOr (bNot (tt (eCall m_law_great_right56 (aOrc 1 (aVal (e2 dAddA (eC (.int 1)) (eCall m_law_draw (aOrc 1 (aVal (eC (.int 5)) aNil)))) aNil))))) (bNot (tt (eCall m_law_between_right (aOrc 1 (aVal (e2 dAddA (eC (.int 1)) (eCall m_law_draw (aOrc 1 (aVal (eC (.int 5)) aNil)))) aNil)))))) (sRet (eC (.bool false))) sNext)
def body56 : FS := sSeq y56_0 (sSeq y56_1 y56_2)
abbrev x56_0 : FS := (sSet 3 (e2 dAddA (eC (.int 1)) (eCall m_law_draw (aOrc 1 (aVal (eC (.int 5)) aNil)))))
abbrev x56_1 : FS := (sSet 4 (eCB dTuple (lCons (eCall m_law_deeds (aVal (eVar 3) (aVal words4 aNil))) lNil)))
abbrev x56_2 : FS := (sSet 5 (eLst (lCons (eCall m_all_deeds (aVal (eVar 3) aNil)) (lCons (eCall m_all_deeds (aVal (eVar 3) aNil)) (lCons (eCall m_many_fillings (aVal (eVar 3) (aVal (eTup lNil) aNil))) lNil)))))
abbrev x56_3 : FS := (sSet 5 (e2 dAddA (eVar 5) (eLst (lCons (eCall m_filling_at (aVal (eVar 3) (aVal (eTup lNil) (aVal (eC (.int 0)) aNil)))) (lCons (eCall m_need_gapped (aReo 2 [1, 0] (aVal (eTup (lCons (eC .none) lNil)) (aVal (eVar 3) aNil)))) lNil)))))
abbrev x56_4 : FS := (sRet (eCall m_law_like (aVal (eVar 5) (aVal (eLst (lCons (eVar 4) (lCons (eVar 4) (lCons (eC (.int 1)) (lCons (eTup lNil) (lCons (eTup (lCons (eC .none) lNil)) lNil)))))) aNil))))
def n56 : FE := (e2 dAddA (eC (.int 1)) (eCB dMin2 (lCons (eC (.int 2)) (lCons (eCB dLenA (lCons (eVar 0) lNil)) lNil))))
def rest56 : FS := sSeq (sForR (lCons n56 lNil) (gN 2) body56) (sSeq x56_0 (sSeq x56_1 (sSeq x56_2 (sSeq x56_3 x56_4))))
section
variable {S : D} {d2 d3 d4 d5 : Option Slot} {c : Nat}
def x56E (S : D) (d2 d3 d4 d5 : Option Slot) : Ev := [some (.val S), some .orc, d2, d3, d4, d5]
theorem ok_cd : Ok (e2 dAddA (eC (.int 1)) (eCall m_law_draw (aOrc 1 (aVal (eC (.int 5)) aNil))) (x56E S d2 d3 d4 d5)) 1 fun d => ∃ c, (1 ≤ c ∧ c ≤ 5) ∧ d = nI c := ok_e2r (x := nI 1) rfl (ok_drawE (l := 5) rfl rfl (by decide) (by decide)) (by
  rintro y ⟨k, hk, rfl⟩
  exact ⟨nI (1 + k), nI_add, 1 + k, ⟨by omega, by omega⟩, rfl⟩)
theorem ok_y0 : Ok (y56_0 (x56E S d2 d3 d4 d5)) 1 fun o => ∃ e, o = .nx e ∧ ∃ c, (1 ≤ c ∧ c ≤ 5) ∧ e = x56E S d2 (sV (nI c)) d4 d5 := by
  have l : eLst (lCons (eC (.int 2)) (lCons (eC (.int 3)) (lCons (eC (.int 1)) (lCons (eC (.int 3)) (lCons (eC (.int 4)) lNil))))) (x56E S d2 d3 d4 d5) = .ret (.list [nI 2, nI 3, nI 1, nI 3, nI 4]) := rfl
  refine (ok_set (ok_callr (aO rfl (a1 l)) (ok_of (by simp) (by show 5 < 1000; decide)))).mono (Nat.le_refl _) ?_
  rintro o ⟨e, eo, x, hx, ee⟩
  simp only [List.mem_cons, List.not_mem_nil, or_false] at hx
  rcases hx with rfl | rfl | rfl | rfl | rfl
  · exact ⟨e, eo, 2, by decide, ee⟩
  · exact ⟨e, eo, 3, by decide, ee⟩
  · exact ⟨e, eo, 1, by decide, ee⟩
  · exact ⟨e, eo, 3, by decide, ee⟩
  · exact ⟨e, eo, 4, by decide, ee⟩
theorem ok_y1 (h1 : 1 ≤ c) (h5 : c ≤ 5) : Ok (y56_1 (x56E S d2 (sV (nI c)) d4 d5)) 44 fun o => ∃ e, o = .nx e ∧ e = x56E S d2 (sV (nI c)) d4 d5 := by
  let E := x56E S d2 (sV (nI c)) d4 d5
  have it : Ok (eCall m_law_items (aOrc 1 (aVal (eVar 3) (aVal (eC (.int 5)) (aVal (eC (.int 150)) aNil)))) E) 36 fun d => ∃ its, FewG c its ∧ d = gapD its := ok_callr (aO rfl (aC (d := nI c) rfl (aC (d := nI 5) rfl (a1 (d := nI 150) rfl)))) (ok_items h1 h5)
  refine ok_ifno (ok_notT (ok_ttB ((ok_call (n := 36) (m := 8) (ok_aOr rfl (ok_aC (x := nI c) rfl (ok_a1 it))) ?_).mono (by decide) fun _ h => h)))
  rintro ss ⟨s1, rfl, s2, rfl, d, rfl, its, F, rfl⟩
  exact ok_all56 h1 h5 F
theorem ok_y2 : Ok (y56_2 (x56E S d2 d3 d4 d5)) 63 fun o => ∃ e, o = .nx e ∧ e = x56E S d2 d3 d4 d5 := by
  refine ok_ifno ((ok_or (n := 25) (m := 38) (ok_notT (ok_ttB ((ok_call (n := 1) (m := 24) (ok_aOr rfl (ok_a1 ok_cd)) ?_).mono (by decide) fun _ h => h))) (ok_notT (ok_ttB ((ok_call (n := 1) (m := 37) (ok_aOr rfl (ok_a1 ok_cd)) ?_).mono (by decide) fun _ h => h)))).mono (by decide) fun _ h => h)
  · rintro ss ⟨s1, rfl, d, rfl, c, ⟨h1, h5⟩, rfl⟩
    exact ok_great56 h1 h5
  · rintro ss ⟨s1, rfl, d, rfl, c, ⟨h1, h5⟩, rfl⟩
    exact ok_between56 h1 h5
theorem ok_body56 : Ok (body56 (x56E S d2 d3 d4 d5)) 108 fun o => ∃ e, o = .nx e ∧ ∃ d2 d3 d4 d5, e = x56E S d2 d3 d4 d5 := by
  unfold body56
  refine (ok_seq (n := 1) (m := 107) ok_y0 ?_).mono (by decide) fun _ h => h
  rintro e ⟨c, ⟨h1, h5⟩, rfl⟩
  refine (ok_seq (n := 44) (m := 63) (ok_y1 h1 h5) ?_).mono (by decide) fun _ h => h
  rintro e rfl
  refine ok_y2.mono (Nat.le_refl _) ?_
  rintro o ⟨e, eo, rfl⟩
  exact ⟨_, eo, _, _, _, _, rfl⟩
theorem gap0 : GapOk c [] := nil_few.g
theorem gap1 : GapOk c [none] := ⟨by decide, fun l h => by simp at h⟩
theorem ok_end56 : Ok (sSeq x56_0 (sSeq x56_1 (sSeq x56_2 (sSeq x56_3 x56_4))) (x56E S d2 d3 d4 d5)) 1 fun o => o = .rv (.bool true) := by
  refine (ok_seq (n := 1) (m := 0) (P := fun e => ∃ c, (1 ≤ c ∧ c ≤ 5) ∧ e = x56E S d2 (sV (nI c)) d4 d5) ?_ ?_).mono (by decide) fun _ h => h
  · refine (ok_set ok_cd).mono (Nat.le_refl _) ?_
    rintro o ⟨e, eo, d, ⟨c, h, rfl⟩, ee⟩
    exact ⟨e, eo, c, h, ee⟩
  rintro e ⟨c, ⟨h1, h5⟩, rfl⟩
  let F := rowD (full c)
  have fo := full_ok h1 h5
  let E : Option Slot → Option Slot → Ev := fun d4 d5 => x56E S d2 (sV (nI c)) d4 d5
  let T0 : List D := [F, F, nI 1]
  let T : D := .list [F, F, nI 1, rowD [], gapD [none]]
  have s1 : x56_1 (E d4 d5) = .ret (.nx (E (sV F) d5)) := set_nx (cb_r (lc1 (call_r (aC (d := nI c) rfl (a1 words4_r)) (v_ldeeds h1 h5))) rfl)
  have ad : eCall m_all_deeds (aVal (eVar 3) aNil) (E (sV F) d5) = .ret F := call_r (a1 (d := nI c) rfl) fo.2.2.2
  have mf : eCall m_many_fillings (aVal (eVar 3) (aVal (eTup lNil) aNil)) (E (sV F) d5) = .ret (nI 1) := call_r (aC (d := nI c) rfl (a1 (d := gapD []) rfl)) (v_many h1 h5 gap0)
  have s2 : x56_2 (E (sV F) d5) = .ret (.nx (E (sV F) (sV (.list T0)))) := set_nx (lst3 ad ad mf)
  have at0 : m_filling_at [.val (nI c), .val (gapD []), .val (nI 0)] = .ret (rowD []) := v_at h1 h5 gap0 rfl
  have s3 : x56_3 (E (sV F) (sV (.list T0))) = .ret (.nx (E (sV F) (sV T))) := set_nx (e2_r (x := .list T0) rfl (lst2 (call_r (aC (d := nI c) rfl (aC (d := gapD []) rfl (a1 (d := nI 0) rfl))) at0) (call2R (x := gapD [none]) (y := nI c) rfl rfl (v_need_gapped h1 h5 gap1))) (cat_lD (show 3 + 2 ≤ 5000 by decide)))
  have due : eLst (lCons (eVar 4) (lCons (eVar 4) (lCons (eC (.int 1)) (lCons (eTup lNil) (lCons (eTup (lCons (eC .none) lNil)) lNil))))) (E (sV F) (sV T)) = .ret T := lst5 (x := F) (y := F) (z := nI 1) (u := rowD []) (v := gapD [none]) rfl rfl rfl rfl rfl
  have sF : Sh F 3 5103 := (sh_rowD (n := 20) (fun d hd => five_of h1 h5 hd) (full_len h5)).mono (by decide) (by decide)
  have sh : Sh T 4 30000 := (Sh.list (k := 3) (w := 5103) (xs := [F, F, nI 1, rowD [], gapD [none]]) (n := 5) (fun x hx => by
    simp only [List.mem_cons, List.not_mem_nil, or_false] at hx
    rcases hx with rfl | rfl | rfl | rfl | rfl
    · exact sF
    · exact sF
    · exact (Sh.int (show 1 < 1000 by decide)).mono (by decide) (by decide)
    · exact (sh_rowD (r := []) (n := 0) (fun d hd => by cases hd) (Nat.le_refl _)).mono (by decide) (by decide)
    · exact sh_gap h1 h5 gap1) (Nat.le_refl 5)).mono (by decide) (by decide)
  have fin : x56_4 (E (sV F) (sV T)) = .ret (.rv (.bool true)) := ret_rv (call_r (aC (d := T) rfl (a1 due)) (v_likeW sh (by decide) (by decide) rfl))
  exact Ok.of ((seq_nx s1).trans ((seq_nx s2).trans ((seq_nx s3).trans fin))) rfl
end
theorem rest56_ok : RestOk 4 rest56 := by
  intro ns hn
  have l0 : eCB dMin2 (lCons (eC (.int 2)) (lCons (eCB dLenA (lCons (eVar 0) lNil)) lNil)) (env0 4 ns) = .ret (nI (min 2 ns.length)) := by
    have a : eCB dLenA (lCons (eVar 0) lNil) (env0 4 ns) = .ret (nI ns.length) := by
      show Tr.ret (PyData.int ((ns.map PyData.int).length : Nat)) = _
      rw [List.length_map]
      rfl
    exact cb_r (lc2 (x := nI 2) (y := nI ns.length) rfl a) min2_n
  have l1 : n56 (env0 4 ns) = .ret (nI (1 + min 2 ns.length)) := e2_r (x := nI 1) rfl l0 nI_add
  let S := scrD (ns.map PyData.int)
  have key : Ok (rest56 (env0 4 ns)) (108 * (1 + min 2 ns.length) + 1) fun o => o = .rv (.bool true) := by
    unfold rest56
    have q := ok_for (tgt := gN 2) (body := body56) (I := fun e => ∃ d2 d3 d4 d5, e = x56E S d2 d3 d4 d5) (k := 108) ((List.range (1 + min 2 ns.length)).map nI) (env0 4 ns) ⟨none, none, none, none, rfl⟩ fun d e h => by
      obtain ⟨d2, d3, d4, d5, rfl⟩ := h
      exact ⟨x56E S (sV d) d3 d4 d5, rfl, ok_body56⟩
    rw [← forR_n (f := n56) l1 (by omega), List.length_map, List.length_range] at q
    refine (ok_seq (m := 1) q ?_).mono (Nat.le_refl _) fun _ h => h
    rintro e ⟨d2, d3, d4, d5, rfl⟩
    exact ok_end56
  refine ⟨108 * (1 + min 2 ns.length) + 1, by omega, ?_⟩
  exact Tr.All_mono (key.run _ (Nat.le_refl _)) fun o c h => h.2
end FL
end
section
set_option maxRecDepth 100000
namespace T56
open DL
theorem e_rest : m_rest = FL.rest56 := by with_unfolding_all rfl
theorem rest_ok : RestOk 4 m_rest := by
  rw [e_rest]
  exact FL.rest56_ok
end T56
end
section
set_option linter.all false
set_option maxRecDepth 100000
namespace T56
open PySem PySem.Spec PyProof.Rows L2 DL
def D_is_between : He.DefD := ⟨("is_between", none), "is_between", "is_between", defArgs s_is_between, defBody s_is_between, defScope s_is_between, [], []⟩
def D_need_number : He.DefD := ⟨("need_number", none), "need_number", "need_number", defArgs s_need_number, defBody s_need_number, defScope s_need_number, [], []⟩
def D_need_cords : He.DefD := ⟨("need_cords", none), "need_cords", "need_cords", defArgs s_need_cords, defBody s_need_cords, defScope s_need_cords, [], []⟩
def D_places_for : He.DefD := ⟨("places_for", none), "places_for", "places_for", defArgs s_places_for, defBody s_places_for, defScope s_places_for, [], []⟩
def D_is_deed : He.DefD := ⟨("is_deed", none), "is_deed", "is_deed", defArgs s_is_deed, defBody s_is_deed, defScope s_is_deed, [], []⟩
def D_is_tuple_of_at_most : He.DefD := ⟨("is_tuple_of_at_most", none), "is_tuple_of_at_most", "is_tuple_of_at_most", defArgs s_is_tuple_of_at_most, defBody s_is_tuple_of_at_most, defScope s_is_tuple_of_at_most, [], []⟩
def D_is_ascending : He.DefD := ⟨("is_ascending", none), "is_ascending", "is_ascending", defArgs s_is_ascending, defBody s_is_ascending, defScope s_is_ascending, [], []⟩
def D_need_row : He.DefD := ⟨("need_row", none), "need_row", "need_row", defArgs s_need_row, defBody s_need_row, defScope s_need_row, [], []⟩
def D_deeds_with : He.DefD := ⟨("deeds_with", none), "deeds_with", "deeds_with", defArgs s_deeds_with, defBody s_deeds_with, defScope s_deeds_with, [], []⟩
def D_is_lot : He.DefD := ⟨("is_lot", none), "is_lot", "is_lot", defArgs s_is_lot, defBody s_is_lot, defScope s_is_lot, [], []⟩
def D_need_gapped_told : He.DefD := ⟨("need_gapped_told", none), "need_gapped_told", "need_gapped_told", defArgs s_need_gapped_told, defBody s_need_gapped_told, defScope s_need_gapped_told, [], []⟩
def D_need_with_gapped : He.DefD := ⟨("need_with_gapped", none), "need_with_gapped", "need_with_gapped", defArgs s_need_with_gapped, defBody s_need_with_gapped, defScope s_need_with_gapped, [], []⟩
def D_lots_in_gapped : He.DefD := ⟨("lots_in_gapped", none), "lots_in_gapped", "lots_in_gapped", defArgs s_lots_in_gapped, defBody s_lots_in_gapped, defScope s_lots_in_gapped, [], []⟩
def D_fills : He.DefD := ⟨("fills", none), "fills", "fills", defArgs s_fills, defBody s_fills, defScope s_fills, [], []⟩
def D_need_gapped : He.DefD := ⟨("need_gapped", none), "need_gapped", "need_gapped", defArgs s_need_gapped, defBody s_need_gapped, defScope s_need_gapped, [], []⟩
def D_all_deeds : He.DefD := ⟨("all_deeds", none), "all_deeds", "all_deeds", defArgs s_all_deeds, defBody s_all_deeds, defScope s_all_deeds, [], []⟩
def D_does_fill : He.DefD := ⟨("does_fill", none), "does_fill", "does_fill", defArgs s_does_fill, defBody s_does_fill, defScope s_does_fill, [], []⟩
def D_many_fillings : He.DefD := ⟨("many_fillings", none), "many_fillings", "many_fillings", defArgs s_many_fillings, defBody s_many_fillings, defScope s_many_fillings, [], []⟩
def D_filling_at : He.DefD := ⟨("filling_at", none), "filling_at", "filling_at", defArgs s_filling_at, defBody s_filling_at, defScope s_filling_at, [], []⟩
def D_number_of_filling : He.DefD := ⟨("number_of_filling", none), "number_of_filling", "number_of_filling", defArgs s_number_of_filling, defBody s_number_of_filling, defScope s_number_of_filling, [], []⟩
def D_gapped_between : He.DefD := ⟨("gapped_between", none), "gapped_between", "gapped_between", defArgs s_gapped_between, defBody s_gapped_between, defScope s_gapped_between, [], []⟩
def D_law_mixed : He.DefD := ⟨("_law_mixed", none), "_law_mixed", "_law_mixed", defArgs s_law_mixed, defBody s_law_mixed, defScope s_law_mixed, [], []⟩
def D_law_folded : He.DefD := ⟨("_law_folded", none), "_law_folded", "_law_folded", defArgs s_law_folded, defBody s_law_folded, defScope s_law_folded, [], []⟩
def D_law_draw : He.DefD := ⟨("_law_draw", none), "_law_draw", "_law_draw", defArgs s_law_draw, defBody s_law_draw, defScope s_law_draw, [], []⟩
def D_law_begun : He.DefD := ⟨("_law_begun", none), "_law_begun", "_law_begun", defArgs s_law_begun, defBody s_law_begun, defScope s_law_begun, [], []⟩
def D_law_of : He.DefD := ⟨("_law_of", none), "_law_of", "_law_of", defArgs s_law_of, defBody s_law_of, defScope s_law_of, [], []⟩
def D_law_like : He.DefD := ⟨("_law_like", none), "_law_like", "_law_like", defArgs s_law_like, defBody s_law_like, defScope s_law_like, [], []⟩
def D_law_named : He.DefD := ⟨("_law_named", none), "_law_named", "_law_named", defArgs s_law_named, defBody s_law_named, defScope s_law_named, [], []⟩
def D_law_straight : He.DefD := ⟨("_law_straight", none), "_law_straight", "_law_straight", defArgs s_law_straight, defBody s_law_straight, defScope s_law_straight, [], []⟩
def D_law_deed : He.DefD := ⟨("_law_deed", none), "_law_deed", "_law_deed", defArgs s_law_deed, defBody s_law_deed, defScope s_law_deed, [], []⟩
def D_law_upon : He.DefD := ⟨("_law_upon", none), "_law_upon", "_law_upon", defArgs s_law_upon, defBody s_law_upon, defScope s_law_upon, [], []⟩
def D_law_figure : He.DefD := ⟨("_law_figure", none), "_law_figure", "_law_figure", defArgs s_law_figure, defBody s_law_figure, defScope s_law_figure, [], []⟩
def D_law_deeds : He.DefD := ⟨("_law_deeds", none), "_law_deeds", "_law_deeds", defArgs s_law_deeds, defBody s_law_deeds, defScope s_law_deeds, [], []⟩
def D_law_row : He.DefD := ⟨("_law_row", none), "_law_row", "_law_row", defArgs s_law_row, defBody s_law_row, defScope s_law_row, [], []⟩
def D_law_lots : He.DefD := ⟨("_law_lots", none), "_law_lots", "_law_lots", defArgs s_law_lots, defBody s_law_lots, defScope s_law_lots, [], []⟩
def D_law_items : He.DefD := ⟨("_law_items", none), "_law_items", "_law_items", defArgs s_law_items, defBody s_law_items, defScope s_law_items, [], []⟩
def D_law_paths : He.DefD := ⟨("_law_paths", none), "_law_paths", "_law_paths", defArgs s_law_paths, defBody s_law_paths, defScope s_law_paths, [], []⟩
def D_law_all_right : He.DefD := ⟨("_law_all_right", none), "_law_all_right", "_law_all_right", defArgs s_law_all_right, defBody s_law_all_right, defScope s_law_all_right, [], []⟩
def D_law_great_right : He.DefD := ⟨("_law_great_right", none), "_law_great_right", "_law_great_right", defArgs s_law_great_right, defBody s_law_great_right, defScope s_law_great_right, [], []⟩
def D_law_between_right : He.DefD := ⟨("_law_between_right", none), "_law_between_right", "_law_between_right", defArgs s_law_between_right, defBody s_law_between_right, defScope s_law_between_right, [], []⟩
def D_law : He.DefD := ⟨("law", none), "law", "law", defArgs s_law, defBody s_law, defScope s_law, [], []⟩
def fns : List He.DefD := [D_is_between, D_need_number, D_need_cords, D_places_for, D_is_deed, D_is_tuple_of_at_most, D_is_ascending, D_need_row, D_deeds_with, D_is_lot, D_need_gapped_told, D_need_with_gapped, D_lots_in_gapped, D_fills, D_need_gapped, D_all_deeds, D_does_fill, D_many_fillings, D_filling_at, D_number_of_filling, D_gapped_between, D_law_mixed, D_law_folded, D_law_draw, D_law_begun, D_law_of, D_law_like, D_law_named, D_law_straight, D_law_deed, D_law_upon, D_law_figure, D_law_deeds, D_law_row, D_law_lots, D_law_items, D_law_paths, D_law_all_right, D_law_great_right, D_law_between_right, D_law]
def fas : List He.Fa := [.glo "is_between", .glo "need_number", .glo "need_cords", .glo "places_for", .glo "is_deed", .glo "is_tuple_of_at_most", .glo "is_ascending", .glo "need_row", .glo "deeds_with", .glo "is_lot", .glo "need_gapped_told", .glo "need_with_gapped", .glo "lots_in_gapped", .glo "fills", .glo "need_gapped", .glo "all_deeds", .glo "does_fill", .glo "many_fillings", .glo "filling_at", .glo "number_of_filling", .glo "gapped_between", .glo "_law_mixed", .glo "_law_folded", .glo "_law_draw", .glo "_law_begun", .glo "_law_of", .glo "_law_like", .glo "_law_named", .glo "_law_straight", .glo "_law_deed", .glo "_law_upon", .glo "_law_figure", .glo "_law_deeds", .glo "_law_row", .glo "_law_lots", .glo "_law_items", .glo "_law_paths", .glo "_law_all_right", .glo "_law_great_right", .glo "_law_between_right", .glo "law", .free "all", .free "any", .free "bool", .free "dict", .free "divmod", .free "enumerate", .free "int", .free "isinstance", .free "len", .free "list", .free "max", .free "min", .free "range", .free "repr", .free "set", .free "sorted", .free "str", .free "sum", .free "tuple", .free "type", .free "zip", .int "MOST_CORDS" 5, .int "MOST_DEEDS" 40, .int "MOST_ITEMS" 12]
def exs0 (K : PySem.W.Frag) : Bool := gloB K "WORDS" d_WORDS
def exs (K : PySem.W.Frag) : Bool := exs0 K && (lamTabs K).isEmpty
abbrev RR : PySem.W.OpenRow := PySem.W.OpenLaw.row PySem.Challenge.rw_hookedcords_k56_whole_fillings_numbered
abbrev hk : PySem.W.Hook := hookM 4 fas fns exs
def ob (s : PySem.W.SharedT) : He.AlD × Bool := obsM 4 fas fns exs (HandSHeadRun.getT s)
theorem ob_eq (s : PySem.W.SharedT) : ob s = hk.obs s.abs := obsM_eq (HandSHeadRun.getT_eq s)
def loose0 : List PySem.Str := ["HookError", "BadCords", "BadRow", "BadNumber", "MOST_CORDS", "MOST_DEEDS", "WORDS", "is_between", "need_number", "need_cords", "places_for", "is_deed"]
def loose1 : List PySem.Str := ["is_tuple_of_at_most", "is_ascending", "need_row", "deeds_with", "MOST_ITEMS", "is_lot", "need_gapped_told", "need_with_gapped", "lots_in_gapped", "fills", "need_gapped", "all_deeds"]
def loose2 : List PySem.Str := ["does_fill", "many_fillings", "filling_at", "number_of_filling", "gapped_between", "_law_mixed", "_law_folded", "_law_draw", "_law_begun", "_law_of", "_law_like", "_law_named"]
def loose3 : List PySem.Str := ["_law_straight", "_law_deed", "_law_upon", "_law_figure", "_law_deeds", "_law_row", "_law_lots", "_law_items", "_law_paths", "_law_all_right", "_law_great_right", "_law_between_right"]
def loose : List PySem.Str := loose0 ++ loose1 ++ loose2 ++ loose3
set_option maxHeartbeats 0
theorem run (w : World) : HandSHeadRun.RunEq RR (PySem.W.view RR.prog [54]) hk ob 4000 loose w := by
  intro os
  kernel_rfl
theorem facts {P : Program} {w : World} {K : PySem.W.Frag} {h : Heap} {mg : Str → Option Value} {f : Addr} (X : K.In h) (G : h.Ns mainGlobals mg) (hfa : mg ("law" : Str) = some (.ref f)) (c : He.SaysD fas fns K) (cx : exs K = true) :
    ∃ fd : FuncData, (∀ (s : Shared) (v : Value), BindsTo s fd ⟨[v], []⟩ [("script", v)]) ∧ ∀ base : Heap, K.In base → base.Ns mainGlobals mg → FnG P w K mg base 9 f fd ["script"] (spLaw K) := by
  have cx : (exs0 K && (lamTabs K).isEmpty) = true := cx
  rw [Bool.and_eq_true] at cx
  obtain ⟨cx, cy⟩ := cx
  have noLam : lamTabs K = [] := List.isEmpty_iff.mp cy
  obtain ⟨fd_is_between, Q_is_between⟩ := c.def_ 0 (d := D_is_between) rfl
  have F_is_between := fun_of (st := s_is_between) Q_is_between
  obtain ⟨fd_need_number, Q_need_number⟩ := c.def_ 1 (d := D_need_number) rfl
  have F_need_number := fun_of (st := s_need_number) Q_need_number
  obtain ⟨fd_need_cords, Q_need_cords⟩ := c.def_ 2 (d := D_need_cords) rfl
  have F_need_cords := fun_of (st := s_need_cords) Q_need_cords
  obtain ⟨fd_places_for, Q_places_for⟩ := c.def_ 3 (d := D_places_for) rfl
  have F_places_for := fun_of (st := s_places_for) Q_places_for
  obtain ⟨fd_is_deed, Q_is_deed⟩ := c.def_ 4 (d := D_is_deed) rfl
  have F_is_deed := fun_of (st := s_is_deed) Q_is_deed
  obtain ⟨fd_is_tuple_of_at_most, Q_is_tuple_of_at_most⟩ := c.def_ 5 (d := D_is_tuple_of_at_most) rfl
  have F_is_tuple_of_at_most := fun_of (st := s_is_tuple_of_at_most) Q_is_tuple_of_at_most
  obtain ⟨fd_is_ascending, Q_is_ascending⟩ := c.def_ 6 (d := D_is_ascending) rfl
  have F_is_ascending := fun_of (st := s_is_ascending) Q_is_ascending
  obtain ⟨fd_need_row, Q_need_row⟩ := c.def_ 7 (d := D_need_row) rfl
  have F_need_row := fun_of (st := s_need_row) Q_need_row
  obtain ⟨fd_deeds_with, Q_deeds_with⟩ := c.def_ 8 (d := D_deeds_with) rfl
  have F_deeds_with := fun_of (st := s_deeds_with) Q_deeds_with
  obtain ⟨fd_is_lot, Q_is_lot⟩ := c.def_ 9 (d := D_is_lot) rfl
  have F_is_lot := fun_of (st := s_is_lot) Q_is_lot
  obtain ⟨fd_need_gapped_told, Q_need_gapped_told⟩ := c.def_ 10 (d := D_need_gapped_told) rfl
  have F_need_gapped_told := fun_of (st := s_need_gapped_told) Q_need_gapped_told
  obtain ⟨fd_need_with_gapped, Q_need_with_gapped⟩ := c.def_ 11 (d := D_need_with_gapped) rfl
  have F_need_with_gapped := fun_of (st := s_need_with_gapped) Q_need_with_gapped
  obtain ⟨fd_lots_in_gapped, Q_lots_in_gapped⟩ := c.def_ 12 (d := D_lots_in_gapped) rfl
  have F_lots_in_gapped := fun_of (st := s_lots_in_gapped) Q_lots_in_gapped
  obtain ⟨fd_fills, Q_fills⟩ := c.def_ 13 (d := D_fills) rfl
  have F_fills := fun_of (st := s_fills) Q_fills
  obtain ⟨fd_need_gapped, Q_need_gapped⟩ := c.def_ 14 (d := D_need_gapped) rfl
  have F_need_gapped := fun_of (st := s_need_gapped) Q_need_gapped
  obtain ⟨fd_all_deeds, Q_all_deeds⟩ := c.def_ 15 (d := D_all_deeds) rfl
  have F_all_deeds := fun_of (st := s_all_deeds) Q_all_deeds
  obtain ⟨fd_does_fill, Q_does_fill⟩ := c.def_ 16 (d := D_does_fill) rfl
  have F_does_fill := fun_of (st := s_does_fill) Q_does_fill
  obtain ⟨fd_many_fillings, Q_many_fillings⟩ := c.def_ 17 (d := D_many_fillings) rfl
  have F_many_fillings := fun_of (st := s_many_fillings) Q_many_fillings
  obtain ⟨fd_filling_at, Q_filling_at⟩ := c.def_ 18 (d := D_filling_at) rfl
  have F_filling_at := fun_of (st := s_filling_at) Q_filling_at
  obtain ⟨fd_number_of_filling, Q_number_of_filling⟩ := c.def_ 19 (d := D_number_of_filling) rfl
  have F_number_of_filling := fun_of (st := s_number_of_filling) Q_number_of_filling
  obtain ⟨fd_gapped_between, Q_gapped_between⟩ := c.def_ 20 (d := D_gapped_between) rfl
  have F_gapped_between := fun_of (st := s_gapped_between) Q_gapped_between
  obtain ⟨fd_law_mixed, Q_law_mixed⟩ := c.def_ 21 (d := D_law_mixed) rfl
  have F_law_mixed := fun_of (st := s_law_mixed) Q_law_mixed
  obtain ⟨fd_law_folded, Q_law_folded⟩ := c.def_ 22 (d := D_law_folded) rfl
  have F_law_folded := fun_of (st := s_law_folded) Q_law_folded
  obtain ⟨fd_law_draw, Q_law_draw⟩ := c.def_ 23 (d := D_law_draw) rfl
  have F_law_draw := fun_of (st := s_law_draw) Q_law_draw
  obtain ⟨fd_law_begun, Q_law_begun⟩ := c.def_ 24 (d := D_law_begun) rfl
  have F_law_begun := fun_of (st := s_law_begun) Q_law_begun
  obtain ⟨fd_law_of, Q_law_of⟩ := c.def_ 25 (d := D_law_of) rfl
  have F_law_of := fun_of (st := s_law_of) Q_law_of
  obtain ⟨fd_law_like, Q_law_like⟩ := c.def_ 26 (d := D_law_like) rfl
  have F_law_like := fun_of (st := s_law_like) Q_law_like
  obtain ⟨fd_law_named, Q_law_named⟩ := c.def_ 27 (d := D_law_named) rfl
  have F_law_named := fun_of (st := s_law_named) Q_law_named
  obtain ⟨fd_law_straight, Q_law_straight⟩ := c.def_ 28 (d := D_law_straight) rfl
  have F_law_straight := fun_of (st := s_law_straight) Q_law_straight
  obtain ⟨fd_law_deed, Q_law_deed⟩ := c.def_ 29 (d := D_law_deed) rfl
  have F_law_deed := fun_of (st := s_law_deed) Q_law_deed
  obtain ⟨fd_law_upon, Q_law_upon⟩ := c.def_ 30 (d := D_law_upon) rfl
  have F_law_upon := fun_of (st := s_law_upon) Q_law_upon
  obtain ⟨fd_law_figure, Q_law_figure⟩ := c.def_ 31 (d := D_law_figure) rfl
  have F_law_figure := fun_of (st := s_law_figure) Q_law_figure
  obtain ⟨fd_law_deeds, Q_law_deeds⟩ := c.def_ 32 (d := D_law_deeds) rfl
  have F_law_deeds := fun_of (st := s_law_deeds) Q_law_deeds
  obtain ⟨fd_law_row, Q_law_row⟩ := c.def_ 33 (d := D_law_row) rfl
  have F_law_row := fun_of (st := s_law_row) Q_law_row
  obtain ⟨fd_law_lots, Q_law_lots⟩ := c.def_ 34 (d := D_law_lots) rfl
  have F_law_lots := fun_of (st := s_law_lots) Q_law_lots
  obtain ⟨fd_law_items, Q_law_items⟩ := c.def_ 35 (d := D_law_items) rfl
  have F_law_items := fun_of (st := s_law_items) Q_law_items
  obtain ⟨fd_law_paths, Q_law_paths⟩ := c.def_ 36 (d := D_law_paths) rfl
  have F_law_paths := fun_of (st := s_law_paths) Q_law_paths
  obtain ⟨fd_law_all_right, Q_law_all_right⟩ := c.def_ 37 (d := D_law_all_right) rfl
  have F_law_all_right := fun_of (st := s_law_all_right) Q_law_all_right
  obtain ⟨fd_law_great_right, Q_law_great_right⟩ := c.def_ 38 (d := D_law_great_right) rfl
  have F_law_great_right := fun_of (st := s_law_great_right) Q_law_great_right
  obtain ⟨fd_law_between_right, Q_law_between_right⟩ := c.def_ 39 (d := D_law_between_right) rfl
  have F_law_between_right := fun_of (st := s_law_between_right) Q_law_between_right
  obtain ⟨fd_law, Q_law⟩ := c.def_ 40 (d := D_law) rfl
  have F_law := fun_of (st := s_law) Q_law
  have g_is_between : mg "is_between" = some (.ref (He.ga K "is_between")) := He.glo_ok X G (c.fact 0 (f := .glo "is_between") rfl)
  have g_need_number : mg "need_number" = some (.ref (He.ga K "need_number")) := He.glo_ok X G (c.fact 1 (f := .glo "need_number") rfl)
  have g_need_cords : mg "need_cords" = some (.ref (He.ga K "need_cords")) := He.glo_ok X G (c.fact 2 (f := .glo "need_cords") rfl)
  have g_places_for : mg "places_for" = some (.ref (He.ga K "places_for")) := He.glo_ok X G (c.fact 3 (f := .glo "places_for") rfl)
  have g_is_deed : mg "is_deed" = some (.ref (He.ga K "is_deed")) := He.glo_ok X G (c.fact 4 (f := .glo "is_deed") rfl)
  have g_is_tuple_of_at_most : mg "is_tuple_of_at_most" = some (.ref (He.ga K "is_tuple_of_at_most")) := He.glo_ok X G (c.fact 5 (f := .glo "is_tuple_of_at_most") rfl)
  have g_is_ascending : mg "is_ascending" = some (.ref (He.ga K "is_ascending")) := He.glo_ok X G (c.fact 6 (f := .glo "is_ascending") rfl)
  have g_need_row : mg "need_row" = some (.ref (He.ga K "need_row")) := He.glo_ok X G (c.fact 7 (f := .glo "need_row") rfl)
  have g_deeds_with : mg "deeds_with" = some (.ref (He.ga K "deeds_with")) := He.glo_ok X G (c.fact 8 (f := .glo "deeds_with") rfl)
  have g_is_lot : mg "is_lot" = some (.ref (He.ga K "is_lot")) := He.glo_ok X G (c.fact 9 (f := .glo "is_lot") rfl)
  have g_need_gapped_told : mg "need_gapped_told" = some (.ref (He.ga K "need_gapped_told")) := He.glo_ok X G (c.fact 10 (f := .glo "need_gapped_told") rfl)
  have g_need_with_gapped : mg "need_with_gapped" = some (.ref (He.ga K "need_with_gapped")) := He.glo_ok X G (c.fact 11 (f := .glo "need_with_gapped") rfl)
  have g_lots_in_gapped : mg "lots_in_gapped" = some (.ref (He.ga K "lots_in_gapped")) := He.glo_ok X G (c.fact 12 (f := .glo "lots_in_gapped") rfl)
  have g_fills : mg "fills" = some (.ref (He.ga K "fills")) := He.glo_ok X G (c.fact 13 (f := .glo "fills") rfl)
  have g_need_gapped : mg "need_gapped" = some (.ref (He.ga K "need_gapped")) := He.glo_ok X G (c.fact 14 (f := .glo "need_gapped") rfl)
  have g_all_deeds : mg "all_deeds" = some (.ref (He.ga K "all_deeds")) := He.glo_ok X G (c.fact 15 (f := .glo "all_deeds") rfl)
  have g_does_fill : mg "does_fill" = some (.ref (He.ga K "does_fill")) := He.glo_ok X G (c.fact 16 (f := .glo "does_fill") rfl)
  have g_many_fillings : mg "many_fillings" = some (.ref (He.ga K "many_fillings")) := He.glo_ok X G (c.fact 17 (f := .glo "many_fillings") rfl)
  have g_filling_at : mg "filling_at" = some (.ref (He.ga K "filling_at")) := He.glo_ok X G (c.fact 18 (f := .glo "filling_at") rfl)
  have g_number_of_filling : mg "number_of_filling" = some (.ref (He.ga K "number_of_filling")) := He.glo_ok X G (c.fact 19 (f := .glo "number_of_filling") rfl)
  have g_gapped_between : mg "gapped_between" = some (.ref (He.ga K "gapped_between")) := He.glo_ok X G (c.fact 20 (f := .glo "gapped_between") rfl)
  have g_law_mixed : mg "_law_mixed" = some (.ref (He.ga K "_law_mixed")) := He.glo_ok X G (c.fact 21 (f := .glo "_law_mixed") rfl)
  have g_law_folded : mg "_law_folded" = some (.ref (He.ga K "_law_folded")) := He.glo_ok X G (c.fact 22 (f := .glo "_law_folded") rfl)
  have g_law_draw : mg "_law_draw" = some (.ref (He.ga K "_law_draw")) := He.glo_ok X G (c.fact 23 (f := .glo "_law_draw") rfl)
  have g_law_begun : mg "_law_begun" = some (.ref (He.ga K "_law_begun")) := He.glo_ok X G (c.fact 24 (f := .glo "_law_begun") rfl)
  have g_law_of : mg "_law_of" = some (.ref (He.ga K "_law_of")) := He.glo_ok X G (c.fact 25 (f := .glo "_law_of") rfl)
  have g_law_like : mg "_law_like" = some (.ref (He.ga K "_law_like")) := He.glo_ok X G (c.fact 26 (f := .glo "_law_like") rfl)
  have g_law_named : mg "_law_named" = some (.ref (He.ga K "_law_named")) := He.glo_ok X G (c.fact 27 (f := .glo "_law_named") rfl)
  have g_law_straight : mg "_law_straight" = some (.ref (He.ga K "_law_straight")) := He.glo_ok X G (c.fact 28 (f := .glo "_law_straight") rfl)
  have g_law_deed : mg "_law_deed" = some (.ref (He.ga K "_law_deed")) := He.glo_ok X G (c.fact 29 (f := .glo "_law_deed") rfl)
  have g_law_upon : mg "_law_upon" = some (.ref (He.ga K "_law_upon")) := He.glo_ok X G (c.fact 30 (f := .glo "_law_upon") rfl)
  have g_law_figure : mg "_law_figure" = some (.ref (He.ga K "_law_figure")) := He.glo_ok X G (c.fact 31 (f := .glo "_law_figure") rfl)
  have g_law_deeds : mg "_law_deeds" = some (.ref (He.ga K "_law_deeds")) := He.glo_ok X G (c.fact 32 (f := .glo "_law_deeds") rfl)
  have g_law_row : mg "_law_row" = some (.ref (He.ga K "_law_row")) := He.glo_ok X G (c.fact 33 (f := .glo "_law_row") rfl)
  have g_law_lots : mg "_law_lots" = some (.ref (He.ga K "_law_lots")) := He.glo_ok X G (c.fact 34 (f := .glo "_law_lots") rfl)
  have g_law_items : mg "_law_items" = some (.ref (He.ga K "_law_items")) := He.glo_ok X G (c.fact 35 (f := .glo "_law_items") rfl)
  have g_law_paths : mg "_law_paths" = some (.ref (He.ga K "_law_paths")) := He.glo_ok X G (c.fact 36 (f := .glo "_law_paths") rfl)
  have g_law_all_right : mg "_law_all_right" = some (.ref (He.ga K "_law_all_right")) := He.glo_ok X G (c.fact 37 (f := .glo "_law_all_right") rfl)
  have g_law_great_right : mg "_law_great_right" = some (.ref (He.ga K "_law_great_right")) := He.glo_ok X G (c.fact 38 (f := .glo "_law_great_right") rfl)
  have g_law_between_right : mg "_law_between_right" = some (.ref (He.ga K "_law_between_right")) := He.glo_ok X G (c.fact 39 (f := .glo "_law_between_right") rfl)
  have g_law : mg "law" = some (.ref (He.ga K "law")) := He.glo_ok X G (c.fact 40 (f := .glo "law") rfl)
  have x0 : gloB K "WORDS" d_WORDS = true := cx
  have B : Bt K mg := { b_all := He.free_ok X G (c.fact 41 (f := .free "all") rfl), b_any := He.free_ok X G (c.fact 42 (f := .free "any") rfl), b_bool := He.free_ok X G (c.fact 43 (f := .free "bool") rfl), b_dict := He.free_ok X G (c.fact 44 (f := .free "dict") rfl), b_divmod := He.free_ok X G (c.fact 45 (f := .free "divmod") rfl), b_enumerate := He.free_ok X G (c.fact 46 (f := .free "enumerate") rfl), b_int := He.free_ok X G (c.fact 47 (f := .free "int") rfl), b_isinstance := He.free_ok X G (c.fact 48 (f := .free "isinstance") rfl), b_len := He.free_ok X G (c.fact 49 (f := .free "len") rfl), b_list := He.free_ok X G (c.fact 50 (f := .free "list") rfl), b_max := He.free_ok X G (c.fact 51 (f := .free "max") rfl), b_min := He.free_ok X G (c.fact 52 (f := .free "min") rfl), b_range := He.free_ok X G (c.fact 53 (f := .free "range") rfl), b_repr := He.free_ok X G (c.fact 54 (f := .free "repr") rfl), b_set := He.free_ok X G (c.fact 55 (f := .free "set") rfl), b_sorted := He.free_ok X G (c.fact 56 (f := .free "sorted") rfl), b_str := He.free_ok X G (c.fact 57 (f := .free "str") rfl), b_sum := He.free_ok X G (c.fact 58 (f := .free "sum") rfl), b_tuple := He.free_ok X G (c.fact 59 (f := .free "tuple") rfl), b_type := He.free_ok X G (c.fact 60 (f := .free "type") rfl), b_zip := He.free_ok X G (c.fact 61 (f := .free "zip") rfl), c_MOST_CORDS := He.int_ok X G (c.fact 62 (f := .int "MOST_CORDS" 5) rfl), c_MOST_DEEDS := He.int_ok X G (c.fact 63 (f := .int "MOST_DEEDS" 40) rfl), c_MOST_ITEMS := He.int_ok X G (c.fact 64 (f := .int "MOST_ITEMS" 12) rfl), c_WORDS := gloB_ok X G x0 }
  have e := hfa.symm.trans g_law
  cases e
  have b_law := FunD.bindsA (ps := ["script"]) Q_law fun _ _ _ _ _ _ us hl => match us, hl with | [_], _ => rfl
  refine ⟨fd_law, fun s v => b_law s [v] rfl, fun base _ _ => ?_⟩
  have G_is_between : FnG P w K mg base 1 (He.ga K "is_between") fd_is_between ["value", "least", "most"] (spD K .v 3 m_is_between) := ok_is_between F_is_between B 
  have b_is_between := F_is_between.binds (ps := ["value", "least", "most"]) fun _ _ _ _ _ _ us hl => match us, hl with | [_, _, _], _ => rfl
  have C_is_between : Cal P w K mg base "is_between" 1 ["value", "least", "most"] (spD K .v 3 m_is_between) := ⟨_, _, G_is_between, b_is_between, g_is_between, F_is_between.kp⟩
  have G_need_number : FnG P w K mg base 2 (He.ga K "need_number") fd_need_number ["value", "least", "most"] (spD K .v 3 m_need_number) := ok_need_number F_need_number B C_is_between
  have b_need_number := F_need_number.binds (ps := ["value", "least", "most"]) fun _ _ _ _ _ _ us hl => match us, hl with | [_, _, _], _ => rfl
  have C_need_number : Cal P w K mg base "need_number" 2 ["value", "least", "most"] (spD K .v 3 m_need_number) := ⟨_, _, G_need_number, b_need_number, g_need_number, F_need_number.kp⟩
  have G_need_cords : FnG P w K mg base 2 (He.ga K "need_cords") fd_need_cords ["cords"] (spD K .v 1 m_need_cords) := ok_need_cords F_need_cords B C_is_between
  have b_need_cords := F_need_cords.binds (ps := ["cords"]) fun _ _ _ _ _ _ us hl => match us, hl with | [_], _ => rfl
  have C_need_cords : Cal P w K mg base "need_cords" 2 ["cords"] (spD K .v 1 m_need_cords) := ⟨_, _, G_need_cords, b_need_cords, g_need_cords, F_need_cords.kp⟩
  have G_places_for : FnG P w K mg base 1 (He.ga K "places_for") fd_places_for ["cords", "word"] (spD K .v 2 m_places_for) := ok_places_for F_places_for B 
  have b_places_for := F_places_for.binds (ps := ["cords", "word"]) fun _ _ _ _ _ _ us hl => match us, hl with | [_, _], _ => rfl
  have C_places_for : Cal P w K mg base "places_for" 1 ["cords", "word"] (spD K .v 2 m_places_for) := ⟨_, _, G_places_for, b_places_for, g_places_for, F_places_for.kp⟩
  have G_is_deed : FnG P w K mg base 2 (He.ga K "is_deed") fd_is_deed ["cords", "value"] (spD K .v 2 m_is_deed) := ok_is_deed F_is_deed B C_places_for C_is_between
  have b_is_deed := F_is_deed.binds (ps := ["cords", "value"]) fun _ _ _ _ _ _ us hl => match us, hl with | [_, _], _ => rfl
  have C_is_deed : Cal P w K mg base "is_deed" 2 ["cords", "value"] (spD K .v 2 m_is_deed) := ⟨_, _, G_is_deed, b_is_deed, g_is_deed, F_is_deed.kp⟩
  have G_is_tuple_of_at_most : FnG P w K mg base 1 (He.ga K "is_tuple_of_at_most") fd_is_tuple_of_at_most ["value", "most"] (spD K .v 2 m_is_tuple_of_at_most) := ok_is_tuple_of_at_most F_is_tuple_of_at_most B 
  have b_is_tuple_of_at_most := F_is_tuple_of_at_most.binds (ps := ["value", "most"]) fun _ _ _ _ _ _ us hl => match us, hl with | [_, _], _ => rfl
  have C_is_tuple_of_at_most : Cal P w K mg base "is_tuple_of_at_most" 1 ["value", "most"] (spD K .v 2 m_is_tuple_of_at_most) := ⟨_, _, G_is_tuple_of_at_most, b_is_tuple_of_at_most, g_is_tuple_of_at_most, F_is_tuple_of_at_most.kp⟩
  have G_is_ascending : FnG P w K mg base 1 (He.ga K "is_ascending") fd_is_ascending ["things"] (spD K .v 1 m_is_ascending) := ok_is_ascending F_is_ascending B 
  have b_is_ascending := F_is_ascending.binds (ps := ["things"]) fun _ _ _ _ _ _ us hl => match us, hl with | [_], _ => rfl
  have C_is_ascending : Cal P w K mg base "is_ascending" 1 ["things"] (spD K .v 1 m_is_ascending) := ⟨_, _, G_is_ascending, b_is_ascending, g_is_ascending, F_is_ascending.kp⟩
  have G_need_row : FnG P w K mg base 3 (He.ga K "need_row") fd_need_row ["cords", "row"] (spD K .v 2 m_need_row) := ok_need_row F_need_row B C_is_tuple_of_at_most C_is_deed
  have b_need_row := F_need_row.binds (ps := ["cords", "row"]) fun _ _ _ _ _ _ us hl => match us, hl with | [_, _], _ => rfl
  have C_need_row : Cal P w K mg base "need_row" 3 ["cords", "row"] (spD K .v 2 m_need_row) := ⟨_, _, G_need_row, b_need_row, g_need_row, F_need_row.kp⟩
  have G_deeds_with : FnG P w K mg base 2 (He.ga K "deeds_with") fd_deeds_with ["cords", "words"] (spD K .v 2 m_deeds_with) := ok_deeds_with F_deeds_with B C_places_for
  have b_deeds_with := F_deeds_with.binds (ps := ["cords", "words"]) fun _ _ _ _ _ _ us hl => match us, hl with | [_, _], _ => rfl
  have C_deeds_with : Cal P w K mg base "deeds_with" 2 ["cords", "words"] (spD K .v 2 m_deeds_with) := ⟨_, _, G_deeds_with, b_deeds_with, g_deeds_with, F_deeds_with.kp⟩
  have G_is_lot : FnG P w K mg base 3 (He.ga K "is_lot") fd_is_lot ["cords", "value"] (spD K .v 2 m_is_lot) := ok_is_lot F_is_lot B C_is_deed C_is_ascending
  have b_is_lot := F_is_lot.binds (ps := ["cords", "value"]) fun _ _ _ _ _ _ us hl => match us, hl with | [_, _], _ => rfl
  have C_is_lot : Cal P w K mg base "is_lot" 3 ["cords", "value"] (spD K .v 2 m_is_lot) := ⟨_, _, G_is_lot, b_is_lot, g_is_lot, F_is_lot.kp⟩
  have G_need_gapped_told : FnG P w K mg base 4 (He.ga K "need_gapped_told") fd_need_gapped_told ["cords", "gapped"] (spD K .v 2 m_need_gapped_told) := ok_need_gapped_told F_need_gapped_told B C_is_tuple_of_at_most C_is_lot
  have b_need_gapped_told := F_need_gapped_told.binds (ps := ["cords", "gapped"]) fun _ _ _ _ _ _ us hl => match us, hl with | [_, _], _ => rfl
  have C_need_gapped_told : Cal P w K mg base "need_gapped_told" 4 ["cords", "gapped"] (spD K .v 2 m_need_gapped_told) := ⟨_, _, G_need_gapped_told, b_need_gapped_told, g_need_gapped_told, F_need_gapped_told.kp⟩
  have G_need_with_gapped : FnG P w K mg base 5 (He.ga K "need_with_gapped") fd_need_with_gapped ["cords", "gapped"] (spD K .v 2 m_need_with_gapped) := ok_need_with_gapped F_need_with_gapped B C_need_cords C_need_gapped_told
  have b_need_with_gapped := F_need_with_gapped.binds (ps := ["cords", "gapped"]) fun _ _ _ _ _ _ us hl => match us, hl with | [_, _], _ => rfl
  have C_need_with_gapped : Cal P w K mg base "need_with_gapped" 5 ["cords", "gapped"] (spD K .v 2 m_need_with_gapped) := ⟨_, _, G_need_with_gapped, b_need_with_gapped, g_need_with_gapped, F_need_with_gapped.kp⟩
  have G_lots_in_gapped : FnG P w K mg base 3 (He.ga K "lots_in_gapped") fd_lots_in_gapped ["cords", "gapped"] (spD K .v 2 m_lots_in_gapped) := ok_lots_in_gapped F_lots_in_gapped B C_deeds_with
  have b_lots_in_gapped := F_lots_in_gapped.binds (ps := ["cords", "gapped"]) fun _ _ _ _ _ _ us hl => match us, hl with | [_, _], _ => rfl
  have C_lots_in_gapped : Cal P w K mg base "lots_in_gapped" 3 ["cords", "gapped"] (spD K .v 2 m_lots_in_gapped) := ⟨_, _, G_lots_in_gapped, b_lots_in_gapped, g_lots_in_gapped, F_lots_in_gapped.kp⟩
  have G_fills : FnG P w K mg base 4 (He.ga K "fills") fd_fills ["cords", "gapped", "row"] (spD K .v 3 m_fills) := ok_fills F_fills B C_lots_in_gapped
  have b_fills := F_fills.binds (ps := ["cords", "gapped", "row"]) fun _ _ _ _ _ _ us hl => match us, hl with | [_, _, _], _ => rfl
  have C_fills : Cal P w K mg base "fills" 4 ["cords", "gapped", "row"] (spD K .v 3 m_fills) := ⟨_, _, G_fills, b_fills, g_fills, F_fills.kp⟩
  have G_need_gapped : FnG P w K mg base 6 (He.ga K "need_gapped") fd_need_gapped ["cords", "gapped"] (spD K .v 2 m_need_gapped) := ok_need_gapped F_need_gapped B C_need_with_gapped
  have b_need_gapped := F_need_gapped.binds (ps := ["cords", "gapped"]) fun _ _ _ _ _ _ us hl => match us, hl with | [_, _], _ => rfl
  have C_need_gapped : Cal P w K mg base "need_gapped" 6 ["cords", "gapped"] (spD K .v 2 m_need_gapped) := ⟨_, _, G_need_gapped, b_need_gapped, g_need_gapped, F_need_gapped.kp⟩
  have Q_P_need_gapped_0 : CalK P w K mg base "need_gapped" 6 ["cords", "gapped"] (reo 2 [1, 0] .none) (reo 2 [1, 0] .non) (spD K .v 2 m_need_gapped) ["gapped", "cords"] := calK_reo F_need_gapped G_need_gapped g_need_gapped (by decide) fun _ _ _ _ _ _ us hl => match us, hl with | [_, _], _ => rfl
  have G_all_deeds : FnG P w K mg base 3 (He.ga K "all_deeds") fd_all_deeds ["cords"] (spD K .v 1 m_all_deeds) := ok_all_deeds F_all_deeds B C_need_cords C_deeds_with
  have b_all_deeds := F_all_deeds.binds (ps := ["cords"]) fun _ _ _ _ _ _ us hl => match us, hl with | [_], _ => rfl
  have C_all_deeds : Cal P w K mg base "all_deeds" 3 ["cords"] (spD K .v 1 m_all_deeds) := ⟨_, _, G_all_deeds, b_all_deeds, g_all_deeds, F_all_deeds.kp⟩
  have K_all_deeds : CalK P w K mg base "all_deeds" 3 ["cords"] id id (spD K .v 1 m_all_deeds) ["cords"] := calK_id F_all_deeds G_all_deeds g_all_deeds fun _ _ _ _ _ _ us hl => match us, hl with | [_], _ => rfl
  have G_does_fill : FnG P w K mg base 6 (He.ga K "does_fill") fd_does_fill ["cords", "gapped", "row"] (spD K .v 3 m_does_fill) := ok_does_fill F_does_fill B C_need_with_gapped C_need_row C_fills
  have b_does_fill := F_does_fill.binds (ps := ["cords", "gapped", "row"]) fun _ _ _ _ _ _ us hl => match us, hl with | [_, _, _], _ => rfl
  have C_does_fill : Cal P w K mg base "does_fill" 6 ["cords", "gapped", "row"] (spD K .v 3 m_does_fill) := ⟨_, _, G_does_fill, b_does_fill, g_does_fill, F_does_fill.kp⟩
  have Q_P_does_fill_0 : CalK P w K mg base "does_fill" 6 ["cords", "gapped", "row"] (reo 3 [2, 1, 0] .none) (reo 3 [2, 1, 0] .non) (spD K .v 3 m_does_fill) ["row", "gapped", "cords"] := calK_reo F_does_fill G_does_fill g_does_fill (by decide) fun _ _ _ _ _ _ us hl => match us, hl with | [_, _, _], _ => rfl
  have G_many_fillings : FnG P w K mg base 6 (He.ga K "many_fillings") fd_many_fillings ["cords", "gapped"] (spD K .v 2 m_many_fillings) := ok_many_fillings F_many_fillings B C_need_with_gapped C_lots_in_gapped
  have b_many_fillings := F_many_fillings.binds (ps := ["cords", "gapped"]) fun _ _ _ _ _ _ us hl => match us, hl with | [_, _], _ => rfl
  have C_many_fillings : Cal P w K mg base "many_fillings" 6 ["cords", "gapped"] (spD K .v 2 m_many_fillings) := ⟨_, _, G_many_fillings, b_many_fillings, g_many_fillings, F_many_fillings.kp⟩
  have Q_P_many_fillings_0 : CalK P w K mg base "many_fillings" 6 ["cords", "gapped"] (reo 2 [1, 0] .none) (reo 2 [1, 0] .non) (spD K .v 2 m_many_fillings) ["gapped", "cords"] := calK_reo F_many_fillings G_many_fillings g_many_fillings (by decide) fun _ _ _ _ _ _ us hl => match us, hl with | [_, _], _ => rfl
  have G_filling_at : FnG P w K mg base 7 (He.ga K "filling_at") fd_filling_at ["cords", "gapped", "number"] (spD K .v 3 m_filling_at) := ok_filling_at F_filling_at B C_many_fillings C_need_number C_lots_in_gapped
  have b_filling_at := F_filling_at.binds (ps := ["cords", "gapped", "number"]) fun _ _ _ _ _ _ us hl => match us, hl with | [_, _, _], _ => rfl
  have C_filling_at : Cal P w K mg base "filling_at" 7 ["cords", "gapped", "number"] (spD K .v 3 m_filling_at) := ⟨_, _, G_filling_at, b_filling_at, g_filling_at, F_filling_at.kp⟩
  have Q_P_filling_at_0 : CalK P w K mg base "filling_at" 7 ["cords", "gapped", "number"] (reo 3 [2, 1, 0] .none) (reo 3 [2, 1, 0] .non) (spD K .v 3 m_filling_at) ["number", "gapped", "cords"] := calK_reo F_filling_at G_filling_at g_filling_at (by decide) fun _ _ _ _ _ _ us hl => match us, hl with | [_, _, _], _ => rfl
  have G_number_of_filling : FnG P w K mg base 7 (He.ga K "number_of_filling") fd_number_of_filling ["cords", "gapped", "row"] (spD K .v 3 m_number_of_filling) := ok_number_of_filling F_number_of_filling B C_does_fill C_lots_in_gapped
  have b_number_of_filling := F_number_of_filling.binds (ps := ["cords", "gapped", "row"]) fun _ _ _ _ _ _ us hl => match us, hl with | [_, _, _], _ => rfl
  have C_number_of_filling : Cal P w K mg base "number_of_filling" 7 ["cords", "gapped", "row"] (spD K .v 3 m_number_of_filling) := ⟨_, _, G_number_of_filling, b_number_of_filling, g_number_of_filling, F_number_of_filling.kp⟩
  have Q_P_number_of_filling_0 : CalK P w K mg base "number_of_filling" 7 ["cords", "gapped", "row"] (reo 3 [2, 1, 0] .none) (reo 3 [2, 1, 0] .non) (spD K .v 3 m_number_of_filling) ["row", "gapped", "cords"] := calK_reo F_number_of_filling G_number_of_filling g_number_of_filling (by decide) fun _ _ _ _ _ _ us hl => match us, hl with | [_, _, _], _ => rfl
  have G_gapped_between : FnG P w K mg base 4 (He.ga K "gapped_between") fd_gapped_between ["cords", "row", "far_row"] (spD K .v 3 m_gapped_between) := ok_gapped_between F_gapped_between B C_need_cords C_need_row
  have b_gapped_between := F_gapped_between.binds (ps := ["cords", "row", "far_row"]) fun _ _ _ _ _ _ us hl => match us, hl with | [_, _, _], _ => rfl
  have C_gapped_between : Cal P w K mg base "gapped_between" 4 ["cords", "row", "far_row"] (spD K .v 3 m_gapped_between) := ⟨_, _, G_gapped_between, b_gapped_between, g_gapped_between, F_gapped_between.kp⟩
  have Q_P_gapped_between_0 : CalK P w K mg base "gapped_between" 4 ["cords", "row", "far_row"] (reo 3 [2, 1, 0] .none) (reo 3 [2, 1, 0] .non) (spD K .v 3 m_gapped_between) ["far_row", "row", "cords"] := calK_reo F_gapped_between G_gapped_between g_gapped_between (by decide) fun _ _ _ _ _ _ us hl => match us, hl with | [_, _, _], _ => rfl
  have G_law_mixed : FnG P w K mg base 1 (He.ga K "_law_mixed") fd_law_mixed ["cell", "n"] (spD K .v 2 m_law_mixed) := ok_law_mixed F_law_mixed B 
  have b_law_mixed := F_law_mixed.binds (ps := ["cell", "n"]) fun _ _ _ _ _ _ us hl => match us, hl with | [_, _], _ => rfl
  have C_law_mixed : Cal P w K mg base "_law_mixed" 1 ["cell", "n"] (spD K .v 2 m_law_mixed) := ⟨_, _, G_law_mixed, b_law_mixed, g_law_mixed, F_law_mixed.kp⟩
  have G_law_folded : FnG P w K mg base 1 (He.ga K "_law_folded") fd_law_folded ["script"] (spD K .o 1 m_law_folded) := ok_law_folded F_law_folded B 
  have b_law_folded := F_law_folded.binds (ps := ["script"]) fun _ _ _ _ _ _ us hl => match us, hl with | [_], _ => rfl
  have C_law_folded : Cal P w K mg base "_law_folded" 1 ["script"] (spD K .o 1 m_law_folded) := ⟨_, _, G_law_folded, b_law_folded, g_law_folded, F_law_folded.kp⟩
  have G_law_draw : FnG P w K mg base 2 (He.ga K "_law_draw") fd_law_draw ["m", "limit"] (spD K .v 2 m_law_draw) := ok_law_draw F_law_draw B C_law_mixed
  have b_law_draw := F_law_draw.binds (ps := ["m", "limit"]) fun _ _ _ _ _ _ us hl => match us, hl with | [_, _], _ => rfl
  have C_law_draw : Cal P w K mg base "_law_draw" 2 ["m", "limit"] (spD K .v 2 m_law_draw) := ⟨_, _, G_law_draw, b_law_draw, g_law_draw, F_law_draw.kp⟩
  have G_law_begun : FnG P w K mg base 2 (He.ga K "_law_begun") fd_law_begun ["script"] (spBegun K) := ok_law_begun F_law_begun B C_law_folded
  have b_law_begun := F_law_begun.binds (ps := ["script"]) fun _ _ _ _ _ _ us hl => match us, hl with | [_], _ => rfl
  have C_law_begun : Cal P w K mg base "_law_begun" 2 ["script"] (spBegun K) := ⟨_, _, G_law_begun, b_law_begun, g_law_begun, F_law_begun.kp⟩
  have G_law_of : FnG P w K mg base 3 (He.ga K "_law_of") fd_law_of ["m", "some"] (spD K .v 2 m_law_of) := ok_law_of F_law_of B C_law_draw
  have b_law_of := F_law_of.binds (ps := ["m", "some"]) fun _ _ _ _ _ _ us hl => match us, hl with | [_, _], _ => rfl
  have C_law_of : Cal P w K mg base "_law_of" 3 ["m", "some"] (spD K .v 2 m_law_of) := ⟨_, _, G_law_of, b_law_of, g_law_of, F_law_of.kp⟩
  have G_law_like : FnG P w K mg base 1 (He.ga K "_law_like") fd_law_like ["got", "due"] (spD K .v 2 m_law_like) := ok_law_like F_law_like B 
  have b_law_like := F_law_like.binds (ps := ["got", "due"]) fun _ _ _ _ _ _ us hl => match us, hl with | [_, _], _ => rfl
  have C_law_like : Cal P w K mg base "_law_like" 1 ["got", "due"] (spD K .v 2 m_law_like) := ⟨_, _, G_law_like, b_law_like, g_law_like, F_law_like.kp⟩
  have G_law_named : FnG P w K mg base 1 (He.ga K "_law_named") fd_law_named ["marks"] (spD K .v 1 m_law_named) := ok_law_named F_law_named B 
  have b_law_named := F_law_named.binds (ps := ["marks"]) fun _ _ _ _ _ _ us hl => match us, hl with | [_], _ => rfl
  have C_law_named : Cal P w K mg base "_law_named" 1 ["marks"] (spD K .v 1 m_law_named) := ⟨_, _, G_law_named, b_law_named, g_law_named, F_law_named.kp⟩
  have G_law_straight : FnG P w K mg base 1 (He.ga K "_law_straight") fd_law_straight ["cords_so"] (spD K .v 1 m_law_straight) := ok_law_straight F_law_straight B 
  have b_law_straight := F_law_straight.binds (ps := ["cords_so"]) fun _ _ _ _ _ _ us hl => match us, hl with | [_], _ => rfl
  have C_law_straight : Cal P w K mg base "_law_straight" 1 ["cords_so"] (spD K .v 1 m_law_straight) := ⟨_, _, G_law_straight, b_law_straight, g_law_straight, F_law_straight.kp⟩
  have G_law_deed : FnG P w K mg base 2 (He.ga K "_law_deed") fd_law_deed ["cords_so", "deed"] (spD K .v 2 m_law_deed) := ok_law_deed F_law_deed B C_law_named
  have b_law_deed := F_law_deed.binds (ps := ["cords_so", "deed"]) fun _ _ _ _ _ _ us hl => match us, hl with | [_, _], _ => rfl
  have C_law_deed : Cal P w K mg base "_law_deed" 2 ["cords_so", "deed"] (spD K .v 2 m_law_deed) := ⟨_, _, G_law_deed, b_law_deed, g_law_deed, F_law_deed.kp⟩
  have G_law_upon : FnG P w K mg base 2 (He.ga K "_law_upon") fd_law_upon ["cords_so", "near", "far"] (spD K .v 3 m_law_upon) := ok_law_upon F_law_upon B C_law_named
  have b_law_upon := F_law_upon.binds (ps := ["cords_so", "near", "far"]) fun _ _ _ _ _ _ us hl => match us, hl with | [_, _, _], _ => rfl
  have C_law_upon : Cal P w K mg base "_law_upon" 2 ["cords_so", "near", "far"] (spD K .v 3 m_law_upon) := ⟨_, _, G_law_upon, b_law_upon, g_law_upon, F_law_upon.kp⟩
  have G_law_figure : FnG P w K mg base 3 (He.ga K "_law_figure") fd_law_figure ["cords_so", "row_so"] (spD K .v 2 m_law_figure) := ok_law_figure F_law_figure B C_law_straight C_law_deed C_law_upon
  have b_law_figure := F_law_figure.binds (ps := ["cords_so", "row_so"]) fun _ _ _ _ _ _ us hl => match us, hl with | [_, _], _ => rfl
  have C_law_figure : Cal P w K mg base "_law_figure" 3 ["cords_so", "row_so"] (spD K .v 2 m_law_figure) := ⟨_, _, G_law_figure, b_law_figure, g_law_figure, F_law_figure.kp⟩
  have G_law_deeds : FnG P w K mg base 1 (He.ga K "_law_deeds") fd_law_deeds ["cords_so", "family_so"] (spD K .v 2 m_law_deeds) := ok_law_deeds F_law_deeds B 
  have b_law_deeds := F_law_deeds.binds (ps := ["cords_so", "family_so"]) fun _ _ _ _ _ _ us hl => match us, hl with | [_, _], _ => rfl
  have C_law_deeds : Cal P w K mg base "_law_deeds" 1 ["cords_so", "family_so"] (spD K .v 2 m_law_deeds) := ⟨_, _, G_law_deeds, b_law_deeds, g_law_deeds, F_law_deeds.kp⟩
  have G_law_row : FnG P w K mg base 4 (He.ga K "_law_row") fd_law_row ["m", "cords_so", "family_so", "most"] (spD K .v 4 m_law_row) := ok_law_row F_law_row B C_law_deeds C_law_draw C_law_of
  have b_law_row := F_law_row.binds (ps := ["m", "cords_so", "family_so", "most"]) fun _ _ _ _ _ _ us hl => match us, hl with | [_, _, _, _], _ => rfl
  have C_law_row : Cal P w K mg base "_law_row" 4 ["m", "cords_so", "family_so", "most"] (spD K .v 4 m_law_row) := ⟨_, _, G_law_row, b_law_row, g_law_row, F_law_row.kp⟩
  have G_law_lots : FnG P w K mg base 2 (He.ga K "_law_lots") fd_law_lots ["cords_so", "items_so"] (spD K .o 2 m_law_lots) := ok_law_lots F_law_lots B C_law_deeds
  have b_law_lots := F_law_lots.binds (ps := ["cords_so", "items_so"]) fun _ _ _ _ _ _ us hl => match us, hl with | [_, _], _ => rfl
  have C_law_lots : Cal P w K mg base "_law_lots" 2 ["cords_so", "items_so"] (spD K .o 2 m_law_lots) := ⟨_, _, G_law_lots, b_law_lots, g_law_lots, F_law_lots.kp⟩
  have G_law_items : FnG P w K mg base 4 (He.ga K "_law_items") fd_law_items ["m", "cords_so", "most", "top"] (spD K .v 4 m_law_items) := ok_law_items F_law_items B C_law_deeds C_law_draw C_law_of
  have b_law_items := F_law_items.binds (ps := ["m", "cords_so", "most", "top"]) fun _ _ _ _ _ _ us hl => match us, hl with | [_, _, _, _], _ => rfl
  have C_law_items : Cal P w K mg base "_law_items" 4 ["m", "cords_so", "most", "top"] (spD K .v 4 m_law_items) := ⟨_, _, G_law_items, b_law_items, g_law_items, F_law_items.kp⟩
  have G_law_paths : FnG P w K mg base 3 (He.ga K "_law_paths") fd_law_paths ["cords_so", "items_so"] (spD K .v 2 m_law_paths) := ok_law_paths F_law_paths B C_law_straight C_law_lots C_law_deed C_law_upon
  have b_law_paths := F_law_paths.binds (ps := ["cords_so", "items_so"]) fun _ _ _ _ _ _ us hl => match us, hl with | [_, _], _ => rfl
  have C_law_paths : Cal P w K mg base "_law_paths" 3 ["cords_so", "items_so"] (spD K .v 2 m_law_paths) := ⟨_, _, G_law_paths, b_law_paths, g_law_paths, F_law_paths.kp⟩
  have G_law_all_right : FnG P w K mg base 8 (He.ga K "_law_all_right") fd_law_all_right ["m", "cords_so", "items_so"] (spD K .v 3 m_law_all_right) := ok_law_all_right F_law_all_right B C_law_paths C_filling_at C_law_like C_number_of_filling C_law_draw C_many_fillings C_need_gapped C_does_fill C_law_row Q_P_many_fillings_0 Q_P_filling_at_0 Q_P_number_of_filling_0 Q_P_does_fill_0
  have b_law_all_right := F_law_all_right.binds (ps := ["m", "cords_so", "items_so"]) fun _ _ _ _ _ _ us hl => match us, hl with | [_, _, _], _ => rfl
  have C_law_all_right : Cal P w K mg base "_law_all_right" 8 ["m", "cords_so", "items_so"] (spD K .v 3 m_law_all_right) := ⟨_, _, G_law_all_right, b_law_all_right, g_law_all_right, F_law_all_right.kp⟩
  have G_law_great_right : FnG P w K mg base 8 (He.ga K "_law_great_right") fd_law_great_right ["m", "cords_so"] (spD K .v 2 m_law_great_right) := ok_law_great_right F_law_great_right B C_law_of C_law_lots C_law_draw C_number_of_filling C_many_fillings C_filling_at C_law_like
  have b_law_great_right := F_law_great_right.binds (ps := ["m", "cords_so"]) fun _ _ _ _ _ _ us hl => match us, hl with | [_, _], _ => rfl
  have C_law_great_right : Cal P w K mg base "_law_great_right" 8 ["m", "cords_so"] (spD K .v 2 m_law_great_right) := ⟨_, _, G_law_great_right, b_law_great_right, g_law_great_right, F_law_great_right.kp⟩
  have G_law_between_right : FnG P w K mg base 5 (He.ga K "_law_between_right") fd_law_between_right ["m", "cords_so"] (spD K .v 2 m_law_between_right) := ok_law_between_right F_law_between_right B C_law_deeds C_law_row C_law_draw C_law_of C_gapped_between C_law_like Q_P_gapped_between_0
  have b_law_between_right := F_law_between_right.binds (ps := ["m", "cords_so"]) fun _ _ _ _ _ _ us hl => match us, hl with | [_, _], _ => rfl
  have C_law_between_right : Cal P w K mg base "_law_between_right" 5 ["m", "cords_so"] (spD K .v 2 m_law_between_right) := ⟨_, _, G_law_between_right, b_law_between_right, g_law_between_right, F_law_between_right.kp⟩
  exact ok_law F_law B rest_ok noLam C_law_begun C_law_of C_law_items C_law_all_right C_law_draw C_law_great_right C_law_between_right C_law_deeds C_many_fillings C_all_deeds C_filling_at C_law_like K_all_deeds Q_P_need_gapped_0
end T56
open PySem PySem.W PySem.Calls PyProof.Rows
set_option maxRecDepth 100000 in
set_option maxHeartbeats 0 in
theorem PySem.Challenge.cw_hookedcords_k56_whole_fillings_numbered_holds : PySem.Challenge.rw_hookedcords_k56_whole_fillings_numbered.Holds := by
  w_on; o_law
  refine HandSHeadRun.head_any (r := T56.RR) (q := view T56.RR.prog [54]) (H := T56.hk) (ob := T56.ob) (M := 4000) (loose := T56.loose) (d := HandSHeadRun.topDef T56.RR.prog 54) (kwd := []) T56.ob_eq
    (by kernel_rfl) (fun s => by kernel_rfl) T56.run (by kernel_rfl) (by kernel_rfl) (by kernel_rfl) (by rfl) (by first | assumption | decide +kernel) (by decide +kernel) ⟨rfl, rfl, rfl, rfl, rfl, by decide +kernel⟩ ?hw ?hc
  case hw => w_witness2
  case hc =>
    refine DL.walk_GE (l := PySem.Challenge.rw_hookedcords_k56_whole_fillings_numbered) (k := 9) (y := "script") rfl (by kernel_rfl) ⟨rfl, by decide, by decide⟩ ?F
    intro w mg fa h Y G hmg0
    obtain ⟨K, KX, c, cx⟩ := Y
    have hmg : mg ("law" : PySem.Str) = some (.ref fa) := by
      have e : (HandSHeadRun.topDef T56.RR.prog 54).name = ("law" : PySem.Str) := by kernel_rfl
      rw [← e]
      exact hmg0
    obtain ⟨fd, hb, hF⟩ := T56.facts (P := (PySem.Challenge.rw_hookedcords_k56_whole_fillings_numbered).prog) (w := w) KX G hmg c cx
    exact ⟨K, fd, KX, hb, hF⟩
end
