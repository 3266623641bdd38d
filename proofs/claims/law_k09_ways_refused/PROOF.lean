import PyProof.Rows.All
import Wide.All
import OpenK.AllK
import Wide.FinOn
import PyProof.TupleKey
import HandS.TupSets
import PyProof.EqAt
import PyProof.EqKinds
import PyProof.TupleCall
import HandS.ForMost
import HandS.Exc
import HandS.ExcOwn
import HandS.ExcInit
import HandS.ExcField
import HandS.TryOnly
import HandS.TryMany
import HandS.WordsExc
import HandS.Flow
import HandS.IsInst
import HandS.Lambda
import HandS.HeadHook1
import HandS.TupAny
import HandS.TupMul
import HandS.TupLe
import KE.LtData
import KE.DataCmp
import HandS.Conv
import HandS.Zip
import HandS.Defaults
import HandS.HeadHook2
import KE.GoesMore
import HandS.Iter
import HandS.SortInts
import HandS.SetFor
import PyProof.TupleOfSeq
import HandS.Style
import HandS.SetBool
import HandS.HeadHook4
import HandS.HeadWalk
import HandS.Text
import HandS.Strs
import HandS.Dict
import KE.KDictPairs
import HandS.Head0
import HandS.Head1
import HandS.Head2
import HandS.Head3
import HandS.HeadHook3
import PySem.Challenge.RW_silentdecks_k09_ways_refused
set_option Elab.async false
set_option linter.all false
set_option maxRecDepth 100000
set_option maxHeartbeats 4000000
namespace SD
open PySem PySem.Spec PyProof.Rows L2
/-! ### a dict whose keys are tuples of ints, ints behind them; L: keys, where they stand, values -/
abbrev kI (P : Program) (w : World) := tupleKind (intKind P w)
abbrev DEnt := List Int × Addr × Int
def entI (P : Program) (w : World) (p : DEnt) (e : DictEntry) : Prop := ∃ t, e = entryOfKey (kI P w) (p.1, p.2.1, Value.int p.2.2 t)
def DxP (a : Addr) (L : List DEnt) : Heap → Prop := fun h => ∃ o es ep, h.get? a = some o ∧ o.ExactDict ∧ o.data = .dict es ep ∧ (∀ P w, Paired (entI P w) L es.toList) ∧ (L.map (·.1)).Nodup ∧ (a == sysModules) = false
def DxO (a : Addr) (L : List DEnt) : HO := .ext (DxP a L)
theorem hash_kI (P P' : Program) (w w' : World) (k : List Int) : (kI P w).hash k = (kI P' w').hash k := rfl
theorem entI_any {P P' : Program} {w w' : World} {p : DEnt} {e : DictEntry} (h : entI P w p e) : entI P' w' p e := h
theorem dx_ok {P : Program} {w : World} {H : Hp} {h : Heap} {a : Addr} {L : List DEnt} (x : DxP a L h) : ObjOk P w H h a (DxO a L) := by
  have ⟨o, _, _, ho, _⟩ := x
  refine ⟨x, ⟨o, ho⟩, fun h1 h2 p k => ?_⟩
  obtain ⟨o, es, ep, g, r⟩ := p
  exact ⟨o, es, ep, k o g, r⟩
end SD

set_option Elab.async false
set_option linter.all false
set_option maxRecDepth 100000
set_option maxHeartbeats 4000000
/-! Canonical readings: what a piece of the text does, told by a function over plain data (trees D, a store M of lists that may change), over the hand layer. -/
namespace SD
open PySem PySem.Spec PyProof.Rows L2

/-- plain data; lst: a list that nobody changes any more; ref n: the n-th object of the store; scr: a list that is only read -/
inductive D where
  | non | bl (b : Bool) | int (i : Int) | str (x : Str) | tup (ds : List D) | lst (ds : List D) | ref (n : Nat) | scr (ds : List D) | fn (x : Str) | dct (kvs : List (List Int × Int))
/-- an object of the store -/
inductive AO where
  | lst (ds : List D)
abbrev Mem := List AO
abbrev Env := List (Option D)
structure Exn where
  name : Str
  fs : List (Str × V)
inductive Res (α : Type) where
  | ok (a : α) (M : Mem)
  | exn (x : Exn) (M : Mem)
  | stuck
def Res.bind {α β : Type} (r : Res α) (k : α → Mem → Res β) : Res β := match r with
  | .ok a M => k a M
  | .exn x M => .exn x M
  | .stuck => .stuck

/-- neither an object of the store nor one that is kept aside -/
def Free (μ ν : List Addr) (a : Addr) : Prop := a ∉ μ ∧ a ∉ ν

/-- at p nothing stands but a table of code -/
def Nw (H : Hp) (p : Addr) : Prop := ∀ o, H p = some o → ∃ ps, o = .tbl ps
theorem Nw.of {H : Hp} {p : Addr} (h : H p = none) : Nw H p := fun o e => by rw [h] at e; cases e
theorem Nw.ne {H : Hp} {p a : Addr} {o : HO} (h : Nw H p) (e : H a = some o) (t : ∀ ps, o ≠ .tbl ps) : a ≠ p := fun z => by
  subst z
  obtain ⟨ps, q⟩ := h o e
  exact t ps q
/-- from one heap to a later one: all but the store's objects (and tables) is kept -/
structure Ext (H : Hp) (μ : List Addr) (H' : Hp) (μ' : List Addr) : Prop where
  ids : ∃ l, μ' = μ ++ l
  keep : ∀ a o, H a = some o → a ∉ μ → (∀ ps, o ≠ .tbl ps) → H' a = some o ∧ a ∉ μ'
  som : ∀ a, Nw H' a → Nw H a
theorem Ext.refl (H : Hp) (μ : List Addr) : Ext H μ H μ := ⟨⟨[], by simp⟩, fun _ _ h n _ => ⟨h, n⟩, fun _ h => h⟩
theorem Ext.trans {H μ H1 μ1 H2 μ2} (a : Ext H μ H1 μ1) (b : Ext H1 μ1 H2 μ2) : Ext H μ H2 μ2 where
  ids := by
    obtain ⟨l, e⟩ := a.ids
    obtain ⟨m, e2⟩ := b.ids
    exact ⟨l ++ m, by rw [e2, e, List.append_assoc]⟩
  keep := fun c o h n t => by
    obtain ⟨h1, n1⟩ := a.keep c o h n t
    exact b.keep c o h1 n1 t
  som := fun c h => a.som c (b.som c h)
theorem Ext.at {H μ H' μ'} (e : Ext H μ H' μ') {n : Nat} {a : Addr} (h : μ[n]? = some a) : μ'[n]? = some a := by
  obtain ⟨l, q⟩ := e.ids
  rw [q, List.getElem?_append_left (List.getElem?_eq_some_iff.mp h).1]
  exact h

/-- a tuple that stands still at a -/
def AtT (K : PySem.W.Frag) (H : Hp) (μ ν : List Addr) (a : Addr) (vs : List V) : Prop :=
  (Rd H a (.tup vs) ∧ Free μ ν a) ∨ ∃ (o : Obj) (its : Array Value) (n : Nat), K.lookup a = some o ∧ o.cls = .type "tuple" ∧ o.data = .seq its n ∧ its.size ≤ sizeLine ∧ Vals vs its.toList
def AtL (H : Hp) (μ ν : List Addr) (a : Addr) (vs : List V) : Prop := H a = some (.lst vs) ∧ Free μ ν a
/-- a list that is only read -/
def AtS (K : PySem.W.Frag) (H : Hp) (μ ν : List Addr) (a : Addr) (vs : List V) : Prop := (Rd H a (.lst vs) ∧ Free μ ν a) ∨
  ∃ (o : Obj) (its : Array Value) (n : Nat), K.lookup a = some o ∧ o.cls = .type "list" ∧ o.dict = none ∧ o.data = .seq its n ∧ its.size ≤ sizeLine ∧ Vals vs its.toList
theorem AtS.seq {K H μ ν a vs} (h : AtS K H μ ν a vs) : SqL K H a vs := by
  rcases h with ⟨h, _⟩ | h
  · exact .inl h
  · exact .inr h
theorem AtT.seq {K H μ ν a vs} (h : AtT K H μ ν a vs) : SqT K H a vs := by
  rcases h with ⟨h, _⟩ | h
  · exact .inl h
  · exact .inr h

/-- a dict that nobody changes: keys tuples of ints, ints behind them -/
def AtD (K : PySem.W.Frag) (H : Hp) (μ ν : List Addr) (a : Addr) (kvs : List (List Int × Int)) : Prop :=
  ∃ L : List DEnt, H a = some (DxO a L) ∧ Free μ ν a ∧ (∀ p ∈ L, AtT K H μ ν p.2.1 (p.1.map V.int)) ∧ kvs = L.map fun p => (p.1, p.2.2)
mutual
inductive R (K : PySem.W.Frag) (H : Hp) (μ ν : List Addr) : D → V → Prop
  | non : R K H μ ν .non .non
  | bl (b : Bool) : R K H μ ν (.bl b) (.bl b)
  | int (i : Int) : R K H μ ν (.int i) (.int i)
  | str (x : Str) : R K H μ ν (.str x) (.str x)
  | tup {a : Addr} {vs : List V} {ds : List D} : AtT K H μ ν a vs → Rs K H μ ν ds vs → R K H μ ν (.tup ds) (.ref a)
  | lst {a : Addr} {vs : List V} {ds : List D} : AtL H μ ν a vs → Rs K H μ ν ds vs → R K H μ ν (.lst ds) (.ref a)
  | ref {n : Nat} {a : Addr} : μ[n]? = some a → R K H μ ν (.ref n) (.ref a)
  | scr {a : Addr} {vs : List V} {ds : List D} : AtS K H μ ν a vs → Rs K H μ ν ds vs → R K H μ ν (.scr ds) (.ref a)
  | fn (x : Str) : R K H μ ν (.fn x) (.ref (He.ga K x))
  | dct {a : Addr} {kvs : List (List Int × Int)} : AtD K H μ ν a kvs → R K H μ ν (.dct kvs) (.ref a)
inductive Rs (K : PySem.W.Frag) (H : Hp) (μ ν : List Addr) : List D → List V → Prop
  | nil : Rs K H μ ν [] []
  | cons {d : D} {ds : List D} {v : V} {vs : List V} : R K H μ ν d v → Rs K H μ ν ds vs → Rs K H μ ν (d :: ds) (v :: vs)
end

section
variable {K : PySem.W.Frag} {H H' : Hp} {μ μ' ν ν' : List Addr}
theorem rd_keep {a : Addr} {u : HO} (e : Ext H μ H' μ') (h : Rd H a u) (n : a ∉ μ) (t : ∀ ps, u ≠ .tbl ps) : Rd H' a u ∧ a ∉ μ' := by
  rcases h with h | ⟨o, h⟩
  · obtain ⟨h1, n1⟩ := e.keep a u h n t
    exact ⟨.inl h1, n1⟩
  · obtain ⟨h1, n1⟩ := e.keep a _ h n (fun ps z => by cases z)
    exact ⟨.inr ⟨o, h1⟩, n1⟩
theorem AtT.ext {a : Addr} {vs : List V} (h : AtT K H μ ν a vs) (e : Ext H μ H' μ') : AtT K H' μ' ν a vs := by
  rcases h with ⟨h, n⟩ | h
  · obtain ⟨h1, n1⟩ := rd_keep e h n.1 (fun ps z => by cases z)
    exact .inl ⟨h1, n1, n.2⟩
  · exact .inr h
theorem AtL.ext {a : Addr} {vs : List V} (h : AtL H μ ν a vs) (e : Ext H μ H' μ') : AtL H' μ' ν a vs := by
  obtain ⟨h1, n1⟩ := e.keep a _ h.1 h.2.1 (fun ps z => by cases z)
  exact ⟨h1, n1, h.2.2⟩
theorem AtS.ext {a : Addr} {vs : List V} (h : AtS K H μ ν a vs) (e : Ext H μ H' μ') : AtS K H' μ' ν a vs := by
  rcases h with ⟨h, n⟩ | h
  · obtain ⟨h1, n1⟩ := rd_keep e h n.1 (fun ps z => by cases z)
    exact .inl ⟨h1, n1, n.2⟩
  · exact .inr h
theorem AtD.ext {a : Addr} {kvs : List (List Int × Int)} (h : AtD K H μ ν a kvs) (e : Ext H μ H' μ') : AtD K H' μ' ν a kvs := by
  obtain ⟨L, h1, h2, h3, h4⟩ := h
  obtain ⟨k1, n1⟩ := e.keep a _ h1 h2.1 (fun ps z => by cases z)
  exact ⟨L, k1, ⟨n1, h2.2⟩, fun p hp => (h3 p hp).ext e, h4⟩
mutual
theorem R.ext (e : Ext H μ H' μ') : ∀ {d : D} {v : V}, R K H μ ν d v → R K H' μ' ν d v
  | _, _, .non => .non
  | _, _, .bl b => .bl b
  | _, _, .int i => .int i
  | _, _, .str x => .str x
  | _, _, .tup h hs => .tup (h.ext e) (Rs.ext e hs)
  | _, _, .lst h hs => .lst (h.ext e) (Rs.ext e hs)
  | _, _, .ref h => .ref (e.at h)
  | _, _, .scr h hs => .scr (h.ext e) (Rs.ext e hs)
  | _, _, .fn x => .fn x
  | _, _, .dct h => .dct (h.ext e)
theorem Rs.ext (e : Ext H μ H' μ') : ∀ {ds : List D} {vs : List V}, Rs K H μ ν ds vs → Rs K H' μ' ν ds vs
  | _, _, .nil => .nil
  | _, _, .cons h hs => .cons (R.ext e h) (Rs.ext e hs)
end
/-- a new object is put aside -/
structure Aside (H H' : Hp) (μ ν ν' : List Addr) : Prop where
  keep : ∀ a o, H a = some o → (∀ ps, o ≠ .tbl ps) → H' a = some o
  sub : ∀ a, a ∈ ν → a ∈ ν'
  new : ∀ a, a ∈ ν' → a ∈ ν ∨ Nw H a
theorem Aside.rd {a : Addr} {u : HO} (e : Aside H H' μ ν ν') (h : Rd H a u) (t : ∀ ps, u ≠ .tbl ps) : Rd H' a u := by
  rcases h with h | ⟨o, h⟩
  · exact .inl (e.keep a _ h t)
  · exact .inr ⟨o, e.keep a _ h (fun ps z => by cases z)⟩
theorem Aside.free {a : Addr} (e : Aside H H' μ ν ν') (s : ¬ Nw H a) (n : Free μ ν a) : Free μ ν' a := ⟨n.1, fun z => by
  rcases e.new a z with h | h
  · exact n.2 h
  · exact s h⟩
theorem rd_some {a : Addr} {u : HO} (h : Rd H a u) (t : ∀ ps, u ≠ .tbl ps) : ¬ Nw H a := fun n => by
  rcases h with h | ⟨o, h⟩
  · exact n.ne h t rfl
  · exact n.ne h (fun ps z => by cases z) rfl
theorem AtT.aside {a : Addr} {vs : List V} (h : AtT K H μ ν a vs) (e : Aside H H' μ ν ν') : AtT K H' μ ν' a vs := by
  rcases h with ⟨h, n⟩ | h
  · exact .inl ⟨e.rd h (fun ps z => by cases z), e.free (rd_some h (fun ps z => by cases z)) n⟩
  · exact .inr h
theorem AtL.aside {a : Addr} {vs : List V} (h : AtL H μ ν a vs) (e : Aside H H' μ ν ν') : AtL H' μ ν' a vs :=
  ⟨e.keep _ _ h.1 (fun ps z => by cases z), e.free (fun n => n.ne h.1 (fun ps z => by cases z) rfl) h.2⟩
theorem AtS.aside {a : Addr} {vs : List V} (h : AtS K H μ ν a vs) (e : Aside H H' μ ν ν') : AtS K H' μ ν' a vs := by
  rcases h with ⟨h, n⟩ | h
  · exact .inl ⟨e.rd h (fun ps z => by cases z), e.free (rd_some h (fun ps z => by cases z)) n⟩
  · exact .inr h
theorem AtD.aside {a : Addr} {kvs : List (List Int × Int)} (h : AtD K H μ ν a kvs) (e : Aside H H' μ ν ν') : AtD K H' μ ν' a kvs := by
  obtain ⟨L, h1, h2, h3, h4⟩ := h
  exact ⟨L, e.keep _ _ h1 (fun ps z => by cases z), e.free (fun n => n.ne h1 (fun ps z => by cases z) rfl) h2, fun p hp => (h3 p hp).aside e, h4⟩
mutual
theorem R.aside (e : Aside H H' μ ν ν') : ∀ {d : D} {v : V}, R K H μ ν d v → R K H' μ ν' d v
  | _, _, .non => .non
  | _, _, .bl b => .bl b
  | _, _, .int i => .int i
  | _, _, .str x => .str x
  | _, _, .tup h hs => .tup (h.aside e) (Rs.aside e hs)
  | _, _, .lst h hs => .lst (h.aside e) (Rs.aside e hs)
  | _, _, .ref h => .ref h
  | _, _, .scr h hs => .scr (h.aside e) (Rs.aside e hs)
  | _, _, .fn x => .fn x
  | _, _, .dct h => .dct (h.aside e)
theorem Rs.aside (e : Aside H H' μ ν ν') : ∀ {ds : List D} {vs : List V}, Rs K H μ ν ds vs → Rs K H' μ ν' ds vs
  | _, _, .nil => .nil
  | _, _, .cons h hs => .cons (R.aside e h) (Rs.aside e hs)
end
/-- what was put aside is given back: to the free, or to the store -/
def Back (μ ν μ' ν' : List Addr) : Prop := (∀ a, Free μ ν a → Free μ' ν' a) ∧ (∃ l, μ' = μ ++ l) ∧ ∀ a, a ∉ μ → a ∉ ν → a ∉ μ'
theorem AtT.back {a : Addr} {vs : List V} (b : ∀ a, Free μ ν a → Free μ' ν' a) (h : AtT K H μ ν a vs) : AtT K H μ' ν' a vs := by
  rcases h with ⟨h, n⟩ | h
  · exact .inl ⟨h, b _ n⟩
  · exact .inr h
theorem AtS.back {a : Addr} {vs : List V} (b : ∀ a, Free μ ν a → Free μ' ν' a) (h : AtS K H μ ν a vs) : AtS K H μ' ν' a vs := by
  rcases h with ⟨h, n⟩ | h
  · exact .inl ⟨h, b _ n⟩
  · exact .inr h
theorem ids_at {μ μ' : List Addr} (h : ∃ l, μ' = μ ++ l) {n : Nat} {a : Addr} (e : μ[n]? = some a) : μ'[n]? = some a := by
  obtain ⟨l, q⟩ := h
  rw [q, List.getElem?_append_left (List.getElem?_eq_some_iff.mp e).1]
  exact e
theorem AtD.back {a : Addr} {kvs : List (List Int × Int)} (b : ∀ a, Free μ ν a → Free μ' ν' a) (h : AtD K H μ ν a kvs) : AtD K H μ' ν' a kvs := by
  obtain ⟨L, h1, h2, h3, h4⟩ := h
  exact ⟨L, h1, b _ h2, fun p hp => (h3 p hp).back b, h4⟩
mutual
theorem R.back (b : ∀ a, Free μ ν a → Free μ' ν' a) (i : ∃ l, μ' = μ ++ l) : ∀ {d : D} {v : V}, R K H μ ν d v → R K H μ' ν' d v
  | _, _, .non => .non
  | _, _, .bl b => .bl b
  | _, _, .int i => .int i
  | _, _, .str x => .str x
  | _, _, .tup h hs => .tup (h.back b) (Rs.back b i hs)
  | _, _, .lst h hs => .lst ⟨h.1, b _ h.2⟩ (Rs.back b i hs)
  | _, _, .ref h => .ref (ids_at i h)
  | _, _, .scr h hs => .scr (h.back b) (Rs.back b i hs)
  | _, _, .fn x => .fn x
  | _, _, .dct h => .dct (h.back b)
theorem Rs.back (b : ∀ a, Free μ ν a → Free μ' ν' a) (i : ∃ l, μ' = μ ++ l) : ∀ {ds : List D} {vs : List V}, Rs K H μ ν ds vs → Rs K H μ' ν' ds vs
  | _, _, .nil => .nil
  | _, _, .cons h hs => .cons (R.back b i h) (Rs.back b i hs)
end
theorem Rs.length : ∀ {ds : List D} {vs : List V}, Rs K H μ ν ds vs → ds.length = vs.length
  | _, _, .nil => rfl
  | _, _, .cons _ t => by simp [Rs.length t]
theorem Rs.get : ∀ {ds : List D} {vs : List V} {i : Nat} {d : D}, Rs K H μ ν ds vs → ds[i]? = some d → ∃ v, vs[i]? = some v ∧ R K H μ ν d v
  | _, _, _, _, .nil, e => by simp at e
  | _, _, 0, _, .cons r _, e => by simp at e; subst e; exact ⟨_, rfl, r⟩
  | _, _, i + 1, d, .cons _ t, e => by
    obtain ⟨v, h1, h2⟩ := Rs.get (i := i) (d := d) t (by simpa using e)
    exact ⟨v, by simpa using h1, h2⟩
theorem Rs.append : ∀ {ds es : List D} {vs ws : List V}, Rs K H μ ν ds vs → Rs K H μ ν es ws → Rs K H μ ν (ds ++ es) (vs ++ ws)
  | _, _, _, _, .nil, s => s
  | _, _, _, _, .cons r t, s => .cons r (Rs.append t s)
theorem Rs.take : ∀ {ds : List D} {vs : List V} (n : Nat), Rs K H μ ν ds vs → Rs K H μ ν (ds.take n) (vs.take n)
  | _, _, 0, _ => by simp; exact .nil
  | _, _, _ + 1, .nil => by simp; exact .nil
  | _, _, n + 1, .cons r t => by simp only [List.take_succ_cons]; exact .cons r (Rs.take n t)
theorem Rs.drop : ∀ {ds : List D} {vs : List V} (n : Nat), Rs K H μ ν ds vs → Rs K H μ ν (ds.drop n) (vs.drop n)
  | _, _, 0, r => by simpa using r
  | _, _, _ + 1, .nil => by simp; exact .nil
  | _, _, n + 1, .cons _ t => by simp only [List.drop_succ_cons]; exact Rs.drop n t
theorem Rs.set {d : D} {v : V} (r : R K H μ ν d v) : ∀ {ds : List D} {vs : List V} (i : Nat), Rs K H μ ν ds vs → Rs K H μ ν (ds.set i d) (vs.set i v)
  | _, _, _, .nil => by simp; exact .nil
  | _, _, 0, .cons _ t => by simp only [List.set_cons_zero]; exact .cons r t
  | _, _, i + 1, .cons q t => by simp only [List.set_cons_succ]; exact .cons q (Rs.set r i t)
theorem Rs.eraseIdx : ∀ {ds : List D} {vs : List V} (i : Nat), Rs K H μ ν ds vs → Rs K H μ ν (ds.eraseIdx i) (vs.eraseIdx i)
  | _, _, _, .nil => by simp; exact .nil
  | _, _, 0, .cons _ t => by simpa using t
  | _, _, i + 1, .cons q t => by simp only [List.eraseIdx_cons_succ]; exact .cons q (Rs.eraseIdx i t)
theorem Rs.dropLast {ds : List D} {vs : List V} (h : Rs K H μ ν ds vs) : Rs K H μ ν ds.dropLast vs.dropLast := by
  rw [List.dropLast_eq_take, List.dropLast_eq_take, h.length]
  exact h.take _
theorem Rs.rep {ds : List D} {vs : List V} (h : Rs K H μ ν ds vs) : ∀ k : Nat, Rs K H μ ν (List.replicate k ds).flatten (List.replicate k vs).flatten
  | 0 => by simp; exact .nil
  | k + 1 => by simp only [List.replicate_succ, List.flatten_cons]; exact Rs.append h (Rs.rep h k)

/-- the names' values -/
structure REnv (K : PySem.W.Frag) (H : Hp) (μ ν : List Addr) (ρ : Env) (σ : L2.St) : Prop where
  len : ρ.length = σ.length
  at_ : ∀ (i : Nat) (d : D), ρ[i]? = some (some d) → ∃ v, σ[i]? = some (some v) ∧ R K H μ ν d v
theorem REnv.ext {ρ : Env} {σ : L2.St} (h : REnv K H μ ν ρ σ) (e : Ext H μ H' μ') : REnv K H' μ' ν ρ σ :=
  ⟨h.len, fun i d q => let ⟨v, a, b⟩ := h.at_ i d q; ⟨v, a, b.ext e⟩⟩
theorem REnv.aside {ρ : Env} {σ : L2.St} (h : REnv K H μ ν ρ σ) (e : Aside H H' μ ν ν') : REnv K H' μ ν' ρ σ :=
  ⟨h.len, fun i d q => let ⟨v, a, b⟩ := h.at_ i d q; ⟨v, a, b.aside e⟩⟩
theorem REnv.set {ρ : Env} {σ : L2.St} (h : REnv K H μ ν ρ σ) {d : D} {v : V} (r : R K H μ ν d v) (i : Nat) : REnv K H μ ν (ρ.set i (some d)) (σ.set i (some v)) where
  len := by simp [h.len]
  at_ := fun j e q => by
    by_cases hj : i = j
    · subst hj
      by_cases hi : i < ρ.length
      · rw [List.getElem?_set_self hi] at q
        cases q
        exact ⟨v, List.getElem?_set_self (h.len ▸ hi), r⟩
      · rw [List.getElem?_eq_none (by simpa using hi)] at q
        cases q
    · rw [List.getElem?_set_ne hj] at q
      obtain ⟨u, a, b⟩ := h.at_ j e q
      exact ⟨u, by rw [List.getElem?_set_ne hj]; exact a, b⟩
theorem REnv.unset {ρ : Env} {σ : L2.St} (h : REnv K H μ ν ρ σ) (i : Nat) : REnv K H μ ν (ρ.set i none) (σ.set i none) where
  len := by simp [h.len]
  at_ := fun j e q => by
    by_cases hj : i = j
    · subst hj
      by_cases hi : i < ρ.length
      · rw [List.getElem?_set_self hi] at q
        cases q
      · rw [List.getElem?_eq_none (by simpa using hi)] at q
        cases q
    · rw [List.getElem?_set_ne hj] at q
      obtain ⟨u, a, b⟩ := h.at_ j e q
      exact ⟨u, by rw [List.getElem?_set_ne hj]; exact a, b⟩
def wipeE (ρ : Env) : List Nat → Env
  | [] => ρ
  | v :: vs => (wipeE ρ vs).set v none
theorem REnv.wipe {ρ : Env} {σ : L2.St} (h : REnv K H μ ν ρ σ) : ∀ vs : List Nat, REnv K H μ ν (wipeE ρ vs) (wipe σ vs)
  | [] => h
  | v :: vs => (REnv.wipe h vs).unset v

/-- an object of the store -/
def RO (K : PySem.W.Frag) (H : Hp) (μ ν : List Addr) : AO → Addr → Prop
  | .lst ds, a => ∃ vs, H a = some (.lst vs) ∧ Rs K H μ ν ds vs
structure SR (K : PySem.W.Frag) (Tb : List (Addr × Str)) (H : Hp) (μ ν : List Addr) (M : Mem) : Prop where
  len : μ.length = M.length
  nd : μ.Nodup
  at_ : ∀ (n : Nat) (a : Addr) (o : AO), μ[n]? = some a → M[n]? = some o → RO K H μ ν o a
  res : ∀ a ∈ ν, ¬ Nw H a ∧ a ∉ μ
  tab : LamX.Tabs Tb H
theorem RO.some {o : AO} {a : Addr} (h : RO K H μ ν o a) : ∃ vs, H a = some (.lst vs) := by
  cases o with
  | lst ds =>
    obtain ⟨vs, h1, _⟩ := h
    exact ⟨vs, h1⟩
theorem SR.mem {Tb : List (Addr × Str)} {M : Mem} (s : SR K Tb H μ ν M) {a : Addr} (h : a ∈ μ) : ∃ vs, H a = some (.lst vs) := by
  obtain ⟨n, hn⟩ := List.mem_iff_getElem?.mp h
  have hl : n < M.length := s.len ▸ (List.getElem?_eq_some_iff.mp hn).1
  exact (s.at_ n a M[n] hn (List.getElem?_eq_getElem hl)).some
end
end SD

set_option Elab.async false
set_option linter.all false
set_option maxRecDepth 100000
set_option maxHeartbeats 4000000
namespace SD
open PySem PySem.Spec PyProof.Rows L2
end SD
local macro_rules | `(tactic| kpt_turns) => `(tactic| first | assumption | exact List.not_mem_nil | exact fun _ h => absurd h List.not_mem_nil | fail "fx")
namespace SD
open PySem PySem.Spec PyProof.Rows L2
end SD
local macro_rules | `(tactic| tbn_conj) => `(tactic| first | assumption | exact fun _ => trivial | exact fun h => h | fail "any")
namespace SD
open PySem PySem.Spec PyProof.Rows L2
/-- what of the state a reading carries along beside the store: tables of code, a word that every later state keeps -/
structure Side where
  Tb : List (Addr × Str)
  fix : List Nat
  J : Hp → List Addr → List Addr → L2.St → Prop
  st : ∀ {H μ ν σ H' μ'}, J H μ ν σ → Ext H μ H' μ' → J H' μ' ν σ
  mv : ∀ {H μ ν σ σ'}, J H μ ν σ → (∀ i ∈ fix, σ'[i]? = σ[i]?) → J H μ ν σ'
/-- these names are as they were -/
abbrev Kp (fix : List Nat) (σ σ' : L2.St) : Prop := ∀ i ∈ fix, σ'[i]? = σ[i]?
theorem Kp.refl {fix : List Nat} {σ : L2.St} : Kp fix σ σ := fun _ _ => rfl
theorem Kp.trans {fix : List Nat} {σ σ1 σ2 : L2.St} (a : Kp fix σ σ1) (b : Kp fix σ1 σ2) : Kp fix σ σ2 := fun i h => (b i h).trans (a i h)
theorem Kp.set {fix : List Nat} {σ : L2.St} {i : Nat} {v : Option V} (h : i ∉ fix) : Kp fix σ (σ.set i v) := fun j hj => List.getElem?_set_ne (fun z : i = j => h (by rw [z]; exact hj))
/-- .. that leans on nothing that is put aside -/
def Side.AnyN (S : Side) : Prop := ∀ {H μ ν ν' σ}, S.J H μ ν σ → S.J H μ ν' σ

section
variable {K : PySem.W.Frag} {H H' : Hp} {μ μ' ν ν' : List Addr} {Tb : List (Addr × Str)} {M : Mem}
theorem ext_fresh {p : Addr} {o : HO} (h : H p = none) (hp : p ∉ μ) : Ext H μ (upd H p o) μ where
  ids := ⟨[], by simp⟩
  keep := fun a u e n _ => ⟨by rw [upd_ne (ne_of_none e h)]; exact e, n⟩
  som := fun a e => by
    by_cases z : a = p
    · rw [z]; exact .of h
    · exact fun u q => e u (by rw [upd_ne z]; exact q)
theorem aside_fresh {p : Addr} {o : HO} (h : H p = none) : Aside H (upd H p o) μ ν (p :: ν) where
  keep := fun a u e _ => by rw [upd_ne (ne_of_none e h)]; exact e
  sub := fun a z => List.mem_cons_of_mem _ z
  new := fun a z => by
    rcases List.mem_cons.mp z with e | e
    · exact .inr (e ▸ Nw.of h)
    · exact .inl e
theorem tabs_up {T : List (Addr × Str)} (t : LamX.Tabs T H) (k : ∀ a o, H a = some o → H' a = some o) : LamX.Tabs T H' := LamX.Tabs.ext t k
theorem SR.notin (s : SR K Tb H μ ν M) {p : Addr} (h : H p = none) : p ∉ μ := fun z => by
  obtain ⟨vs, e⟩ := s.mem z
  rw [h] at e; cases e
theorem SR.free (s : SR K Tb H μ ν M) {p : Addr} (h : H p = none) : Free μ ν p := ⟨s.notin h, fun z => (s.res p z).1 (.of h)⟩
theorem ext_up (k : ∀ a o, H a = some o → H' a = some o) : Ext H μ H' μ where
  ids := ⟨[], by simp⟩
  keep := fun a o e n _ => ⟨k a o e, n⟩
  som := fun a e o q => e o (k a o q)
theorem SR.up (s : SR K Tb H μ ν M) (k : ∀ a o, H a = some o → H' a = some o) : SR K Tb H' μ ν M where
  len := s.len
  nd := s.nd
  at_ := fun n a o h1 h2 => by
    have q := s.at_ n a o h1 h2
    cases o with
    | lst ds =>
      obtain ⟨vs, e, r⟩ := q
      exact ⟨vs, k _ _ e, r.ext (ext_up k)⟩
  res := fun a z => by
    exact ⟨fun q => (s.res a z).1 fun o e => q o (k a o e), (s.res a z).2⟩
  tab := tabs_up s.tab k
theorem up_fresh {p : Addr} {o : HO} (h : H p = none) : ∀ a u, H a = some u → upd H p o a = some u := fun a u e => by rw [upd_ne (ne_of_none e h)]; exact e
/-- a new object is put aside -/
theorem SR.aside (s : SR K Tb H μ ν M) {p : Addr} {o : HO} (h : H p = none) (ho : ∀ ps, o ≠ .tbl ps := by intro ps z; cases z) : SR K Tb (upd H p o) μ (p :: ν) M where
  len := s.len
  nd := s.nd
  at_ := fun n a u h1 h2 => by
    have q := s.at_ n a u h1 h2
    cases u with
    | lst ds =>
      obtain ⟨vs, e, r⟩ := q
      exact ⟨vs, up_fresh h _ _ e, r.aside (aside_fresh h)⟩
  res := fun a z => by
    rcases List.mem_cons.mp z with e | e
    · subst e
      exact ⟨fun q => q.ne upd_same ho rfl, s.notin h⟩
    · obtain ⟨z1, z2⟩ := s.res a e
      exact ⟨fun q => z1 fun u e' => q u (up_fresh h _ _ e'), z2⟩
  tab := tabs_up s.tab (up_fresh h)
theorem R.release {p : Addr} {d : D} {v : V} (r : R K H μ (p :: ν) d v) : R K H μ ν d v := r.back (fun a h => ⟨h.1, fun z => h.2 (List.mem_cons_of_mem _ z)⟩) ⟨[], by simp⟩
theorem Rs.release {p : Addr} {ds : List D} {vs : List V} (r : Rs K H μ (p :: ν) ds vs) : Rs K H μ ν ds vs := Rs.back (fun a h => ⟨h.1, fun z => h.2 (List.mem_cons_of_mem _ z)⟩) ⟨[], by simp⟩ r
theorem SR.release {p : Addr} (s : SR K Tb H μ (p :: ν) M) : SR K Tb H μ ν M where
  len := s.len
  nd := s.nd
  at_ := fun n a u h1 h2 => by
    have q := s.at_ n a u h1 h2
    cases u with
    | lst ds =>
      obtain ⟨vs, e, r⟩ := q
      exact ⟨vs, e, r.release⟩
  res := fun a z => s.res a (List.mem_cons_of_mem _ z)
  tab := s.tab
theorem to_store {p : Addr} (a : Addr) (h : Free μ (p :: ν) a) : Free (μ ++ [p]) ν a :=
  ⟨fun z => by
    rcases List.mem_append.mp z with z | z
    · exact h.1 z
    · exact h.2 (by rw [List.mem_singleton.mp z]; exact List.mem_cons_self), fun z => h.2 (List.mem_cons_of_mem _ z)⟩
theorem R.store {p : Addr} {vs' : List V} (h : H p = some (.lst vs')) {d : D} {v : V} (r : R K H μ (p :: ν) d v) : R K H (μ ++ [p]) ν d v := r.back to_store ⟨[p], rfl⟩
theorem Rs.store {p : Addr} {vs' : List V} (h : H p = some (.lst vs')) {d : List D} {v : List V} (r : Rs K H μ (p :: ν) d v) : Rs K H (μ ++ [p]) ν d v := Rs.back to_store ⟨[p], rfl⟩ r
/-- what was put aside is an object of the store from now on -/
theorem SR.alloc {p : Addr} {ds : List D} {vs : List V} (s : SR K Tb H μ (p :: ν) M) (h : H p = some (.lst vs)) (r : Rs K H μ (p :: ν) ds vs) (hn : p ∉ ν) : SR K Tb H (μ ++ [p]) ν (M ++ [.lst ds]) where
  len := by simp [s.len]
  nd := by
    have hp : p ∉ μ := (s.res p List.mem_cons_self).2
    refine List.nodup_append.mpr ⟨s.nd, by simp, fun a ha b hb => ?_⟩
    rw [List.mem_singleton] at hb
    rintro rfl
    exact hp (hb ▸ ha)
  at_ := fun n a u h1 h2 => by
    by_cases hl : n < μ.length
    · rw [List.getElem?_append_left hl] at h1
      rw [List.getElem?_append_left (s.len ▸ hl)] at h2
      have q := s.at_ n a u h1 h2
      cases u with
      | lst es =>
        obtain ⟨ws, e, r'⟩ := q
        exact ⟨ws, e, r'.store h⟩
    · have h3 : n = μ.length := by
        have := (List.getElem?_eq_some_iff.mp h1).1
        simp at this
        omega
      subst h3
      rw [List.getElem?_append_right (Nat.le_refl _)] at h1
      rw [s.len, List.getElem?_append_right (Nat.le_refl _)] at h2
      simp at h1 h2
      subst h1
      subst h2
      exact ⟨vs, h, r.store h⟩
  res := fun a z => by
    obtain ⟨z1, z2⟩ := s.res a (List.mem_cons_of_mem _ z)
    refine ⟨z1, fun q => ?_⟩
    rcases List.mem_append.mp q with q | q
    · exact z2 q
    · rw [List.mem_singleton.mp q] at z
      exact hn z
  tab := s.tab
theorem mem_at {μ : List Addr} {n : Nat} {a : Addr} (h : μ[n]? = some a) : a ∈ μ := List.mem_iff_getElem?.mpr ⟨n, h⟩
/-- an object of the store is written -/
theorem ext_write {a : Addr} {n : Nat} {o : HO} (ha : μ[n]? = some a) (ho : ∀ ps, o ≠ .tbl ps := by intro ps z; cases z) : Ext H μ (upd H a o) μ where
  ids := ⟨[], by simp⟩
  keep := fun b u e nb _ => ⟨by rw [upd_ne (fun z : b = a => nb (by rw [z]; exact mem_at ha))]; exact e, nb⟩
  som := fun b e => by
    by_cases z : b = a
    · subst z; exact absurd rfl (e.ne upd_same ho)
    · exact fun u q => e u (by rw [upd_ne z]; exact q)
theorem tabs_write {T : List (Addr × Str)} {a : Addr} {vs ws : List V} (t : LamX.Tabs T H) (h : H a = some (.lst vs)) : LamX.Tabs T (upd H a (.lst ws)) := fun p hp => by
  obtain ⟨ps, h1, h2, h3⟩ := t p hp
  have na : ∀ {b : Addr} {o : HO}, H b = some o → (∀ zs, o ≠ .lst zs) → b ≠ a := fun {b o} e q z => by
    rw [z, h] at e; exact q vs (Option.some.inj e).symm
  refine ⟨ps, by rw [upd_ne (na h1 (fun zs z => by cases z))]; exact h1, h2, fun pos cv hc => ?_⟩
  obtain ⟨c, e1, e2⟩ := h3 pos cv hc
  exact ⟨c, e1, by rw [upd_ne (na e2 (fun zs z => by unfold LamX.CodeO at z; cases z))]; exact e2⟩
theorem SR.write {a : Addr} {n : Nat} {ds : List D} {vs : List V} (s : SR K Tb H μ ν M) (ha : μ[n]? = some a) (r : Rs K H μ ν ds vs) : SR K Tb (upd H a (.lst vs)) μ ν (M.set n (.lst ds)) where
  len := by simp [s.len]
  nd := s.nd
  at_ := fun m b u h1 h2 => by
    by_cases hm : n = m
    · subst hm
      rw [ha] at h1
      cases h1
      have hl : n < M.length := s.len ▸ (List.getElem?_eq_some_iff.mp ha).1
      rw [List.getElem?_set_self hl] at h2
      cases h2
      exact ⟨vs, upd_same, r.ext (ext_write ha)⟩
    · rw [List.getElem?_set_ne hm] at h2
      have q := s.at_ m b u h1 h2
      have hb : b ≠ a := fun z => hm (by
        subst z
        obtain ⟨l1, e1⟩ := List.getElem?_eq_some_iff.mp ha
        obtain ⟨l2, e2⟩ := List.getElem?_eq_some_iff.mp h1
        exact (List.getElem_inj s.nd).mp (e1.trans e2.symm))
      cases u with
      | lst es =>
        obtain ⟨ws, e, r'⟩ := q
        exact ⟨ws, by rw [upd_ne hb]; exact e, r'.ext (ext_write ha)⟩
  res := fun b z => by
    obtain ⟨z1, z2⟩ := s.res b z
    exact ⟨fun q => z1 fun u e => q u (by rw [upd_ne (fun e : b = a => z2 (by rw [e]; exact mem_at ha))]; exact e), z2⟩
  tab := by
    have hl : n < M.length := s.len ▸ (List.getElem?_eq_some_iff.mp ha).1
    obtain ⟨ws, e⟩ := (s.at_ n a _ ha (List.getElem?_eq_getElem hl)).some
    exact tabs_write s.tab e
theorem SR.get (s : SR K Tb H μ ν M) {n : Nat} {a : Addr} {ds : List D} (ha : μ[n]? = some a) (hm : M[n]? = some (.lst ds)) : ∃ vs, H a = some (.lst vs) ∧ Rs K H μ ν ds vs := s.at_ n a _ ha hm
end

/-! ### exceptions, results -/
def RX (K : PySem.W.Frag) (H : Hp) (μ : List Addr) (x : Exn) (cls : Value) (dd : Option Addr) : Prop :=
  cls = .ref (He.ga K x.name) ∧ (x.fs ≠ [] → ∃ a : Addr, dd = some a ∧ H a = some (.xd x.fs) ∧ a ∉ μ)
theorem RX.ext {K : PySem.W.Frag} {H H' : Hp} {μ μ' : List Addr} {x : Exn} {cls : Value} {dd : Option Addr} (h : RX K H μ x cls dd) (e : Ext H μ H' μ') : RX K H' μ' x cls dd := by
  refine ⟨h.1, fun n => ?_⟩
  obtain ⟨a, h1, h2, h3⟩ := h.2 n
  obtain ⟨k1, k2⟩ := e.keep a _ h2 h3 (fun ps z => by cases z)
  exact ⟨a, h1, k1, k2⟩
abbrev Rel (α β : Type) := Hp → List Addr → List Addr → α → β → Prop
structure RelOk {α β : Type} (rel : Rel α β) : Prop where
  ext : ∀ {H μ H' μ' ν a b}, rel H μ ν a b → Ext H μ H' μ' → rel H' μ' ν a b
section
variable {α β γ δ : Type}
/-- behind a result -/
def Ok (K : PySem.W.Frag) (Tb : List (Addr × Str)) (W : WX) (σ : L2.St) (ν : List Addr) (rel : Rel α β) (H : Hp) (μ : List Addr) (Q : β → Hp → Prop) : Res α → Prop
  | .ok a M' => ∀ b H' μ', Ext H μ H' μ' → rel H' μ' ν a b → SR K Tb H' μ' ν M' → Q b H'
  | .exn x M' => ∀ cls dd H' μ', Ext H μ H' μ' → RX K H' μ' x cls dd → SR K Tb H' μ' ν M' → W cls dd σ H'
  | .stuck => False
theorem Ok.ext {K Tb W σ ν} {rel : Rel α β} {H μ H' μ'} {Q : β → Hp → Prop} {r : Res α} (h : Ok K Tb W σ ν rel H μ Q r) (e : Ext H μ H' μ') : Ok K Tb W σ ν rel H' μ' Q r := by
  cases r with
  | ok a M' => exact fun b H2 μ2 e2 => h b H2 μ2 (e.trans e2)
  | exn x M' => exact fun cls dd H2 μ2 e2 => h cls dd H2 μ2 (e.trans e2)
  | stuck => exact h
theorem Ok.bind {K Tb W σ ν} {rel : Rel α β} {rel' : Rel γ δ} {H μ} {Q : δ → Hp → Prop} {P : β → Hp → Prop} {r : Res α} {k : α → Mem → Res γ} (h : Ok K Tb W σ ν rel' H μ Q (r.bind k))
    (hk : ∀ a M1 b H1 μ1, Ext H μ H1 μ1 → rel H1 μ1 ν a b → SR K Tb H1 μ1 ν M1 → Ok K Tb W σ ν rel' H1 μ1 Q (k a M1) → P b H1) : Ok K Tb W σ ν rel H μ P r := by
  cases r with
  | ok a M' => exact fun b H1 μ1 e ra s => hk a M' b H1 μ1 e ra s (Ok.ext (r := k a M') h e)
  | exn x M' => exact h
  | stuck => exact h
/-- the canonical reading -/
def Tg (K : PySem.W.Frag) (S : Side) (W : WX) (rel : Rel α β) (f : Env → Mem → Res α) : L2.St → Hp → (β → Hp → Prop) → Prop := fun σ H Q =>
  ∃ (ρ : Env) (μ ν : List Addr) (M : Mem), S.J H μ ν σ ∧ REnv K H μ ν ρ σ ∧ SR K S.Tb H μ ν M ∧ Ok K S.Tb W σ ν rel H μ Q (f ρ M)
theorem Tg.bind {K : PySem.W.Frag} {S : Side} {W : WX} {rel : Rel α β} {rel' : Rel γ δ} {f : Env → Mem → Res α} {k : Env → α → Mem → Res γ} {σ : L2.St} {H : Hp} {Q : δ → Hp → Prop} {P : β → Hp → Prop}
    (h : Tg K S W rel' (fun ρ M => (f ρ M).bind (k ρ)) σ H Q)
    (hk : ∀ ρ μ ν M a b H1, S.J H1 μ ν σ → REnv K H1 μ ν ρ σ → SR K S.Tb H1 μ ν M → rel H1 μ ν a b → Ok K S.Tb W σ ν rel' H1 μ Q (k ρ a M) → P b H1) : Tg K S W rel f σ H P := by
  obtain ⟨ρ, μ, ν, M, j, e, s, o⟩ := h
  exact ⟨ρ, μ, ν, M, j, e, s, Ok.bind o fun a M1 b H1 μ1 x r s1 o1 => hk ρ μ1 ν M1 a b H1 (S.st j x) (e.ext x) s1 r o1⟩
end
abbrev rD (K : PySem.W.Frag) : Rel D V := fun H μ ν d v => R K H μ ν d v
abbrev rL (K : PySem.W.Frag) : Rel (List D) (List V) := fun H μ ν d v => Rs K H μ ν d v
abbrev rB : Rel Bool Bool := fun _ _ _ a b => a = b
abbrev T (K : PySem.W.Frag) (S : Side) (W : WX) (f : Env → Mem → Res D) : TE := Tg K S W (rD K) f
abbrev TL (K : PySem.W.Frag) (S : Side) (W : WX) (f : Env → Mem → Res (List D)) : TA := Tg K S W (rL K) f
abbrev TB (K : PySem.W.Frag) (S : Side) (W : WX) (f : Env → Mem → Res Bool) : TT := Tg K S W rB f

/-! ### statements -/
inductive SRes where
  | nx (ρ : Env) (M : Mem)
  | rt (d : D) (M : Mem)
  | bk (ρ : Env) (M : Mem)
  | ct (ρ : Env) (M : Mem)
  | exn (x : Exn) (ρ : Env) (M : Mem)
  | stuck
def SRes.bind (r : SRes) (k : Env → Mem → SRes) : SRes := match r with
  | .nx ρ M => k ρ M
  | r => r
def Res.toS {α : Type} (r : Res α) (ρ : Env) (k : α → Mem → SRes) : SRes := match r with
  | .ok a M => k a M
  | .exn x M => .exn x ρ M
  | .stuck => .stuck
def OkS (K : PySem.W.Frag) (S : Side) (W : WX) (ν : List Addr) (σ : L2.St) (H : Hp) (μ : List Addr) (E : Ends) : SRes → Prop
  | .nx ρ' M' => ∀ σ' H' μ', Ext H μ H' μ' → Kp S.fix σ σ' → REnv K H' μ' ν ρ' σ' → SR K S.Tb H' μ' ν M' → E.nx σ' H'
  | .rt d M' => ∀ v H' μ', Ext H μ H' μ' → R K H' μ' ν d v → SR K S.Tb H' μ' ν M' → E.rt v H'
  | .bk ρ' M' => ∀ σ' H' μ', Ext H μ H' μ' → Kp S.fix σ σ' → REnv K H' μ' ν ρ' σ' → SR K S.Tb H' μ' ν M' → E.bk σ' H'
  | .ct ρ' M' => ∀ σ' H' μ', Ext H μ H' μ' → Kp S.fix σ σ' → REnv K H' μ' ν ρ' σ' → SR K S.Tb H' μ' ν M' → E.ct σ' H'
  | .exn x ρ' M' => ∀ cls dd σ' H' μ', Ext H μ H' μ' → Kp S.fix σ σ' → REnv K H' μ' ν ρ' σ' → RX K H' μ' x cls dd → SR K S.Tb H' μ' ν M' → W cls dd σ' H'
  | .stuck => False
theorem OkS.ext {K S W ν σ σ' H μ H' μ' E} {r : SRes} (h : OkS K S W ν σ H μ E r) (e : Ext H μ H' μ') (k : Kp S.fix σ σ') : OkS K S W ν σ' H' μ' E r := by
  cases r with
  | nx ρ M => exact fun σ2 H2 μ2 e2 k2 => h σ2 H2 μ2 (e.trans e2) (k.trans k2)
  | rt d M => exact fun v H2 μ2 e2 => h v H2 μ2 (e.trans e2)
  | bk ρ M => exact fun σ2 H2 μ2 e2 k2 => h σ2 H2 μ2 (e.trans e2) (k.trans k2)
  | ct ρ M => exact fun σ2 H2 μ2 e2 k2 => h σ2 H2 μ2 (e.trans e2) (k.trans k2)
  | exn x ρ M => exact fun c dd σ2 H2 μ2 e2 k2 => h c dd σ2 H2 μ2 (e.trans e2) (k.trans k2)
  | stuck => exact h
def TSc (K : PySem.W.Frag) (S : Side) (W : WX) (f : Env → Mem → SRes) : TS := fun E σ H =>
  ∃ (ρ : Env) (μ ν : List Addr) (M : Mem), S.J H μ ν σ ∧ REnv K H μ ν ρ σ ∧ SR K S.Tb H μ ν M ∧ OkS K S W ν σ H μ E (f ρ M)
/-- from an expression to a statement -/
theorem Ok.toS {α β : Type} {K S W σ ν} {rel : Rel α β} {H μ ρ E} {P : β → Hp → Prop} {r : Res α} {k : α → Mem → SRes} (he : REnv K H μ ν ρ σ) (h : OkS K S W ν σ H μ E (r.toS ρ k))
    (hk : ∀ a M1 b H1 μ1, Ext H μ H1 μ1 → rel H1 μ1 ν a b → SR K S.Tb H1 μ1 ν M1 → OkS K S W ν σ H1 μ1 E (k a M1) → P b H1) : Ok K S.Tb W σ ν rel H μ P r := by
  cases r with
  | ok a M' => exact fun b H1 μ1 e ra s => hk a M' b H1 μ1 e ra s (OkS.ext (r := k a M') h e .refl)
  | exn x M' => exact fun cls dd H1 μ1 e rx s => h cls dd σ H1 μ1 e .refl (he.ext e) rx s
  | stuck => exact h
theorem TSc.toS {α β : Type} {K : PySem.W.Frag} {S : Side} {W : WX} {rel : Rel α β} {f : Env → Mem → Res α} {k : Env → α → Mem → SRes} {σ : L2.St} {H : Hp} {E : Ends} {P : β → Hp → Prop}
    (h : TSc K S W (fun ρ M => (f ρ M).toS ρ (k ρ)) E σ H)
    (hk : ∀ ρ μ ν M a b H1, S.J H1 μ ν σ → REnv K H1 μ ν ρ σ → SR K S.Tb H1 μ ν M → rel H1 μ ν a b → OkS K S W ν σ H1 μ E (k ρ a M) → P b H1) : Tg K S W rel f σ H P := by
  obtain ⟨ρ, μ, ν, M, j, e, s, o⟩ := h
  exact ⟨ρ, μ, ν, M, j, e, s, Ok.toS e o fun a M1 b H1 μ1 x r s1 o1 => hk ρ μ1 ν M1 a b H1 (S.st j x) (e.ext x) s1 r o1⟩
end SD

set_option Elab.async false
set_option linter.all false
set_option maxRecDepth 100000
set_option maxHeartbeats 4000000
namespace SD
open PySem PySem.Spec PyProof.Rows L2
section
variable {X : Cx} {S : Side} {W : WX} {a b c e : Expr} {fa fb fc : Env → Mem → Res D} {pos : Pos} {op : Operator}
/-! ### names, constants -/
def fVar (i : Nat) : Env → Mem → Res D := fun ρ M => match ρ[i]? with
  | some (some d) => .ok d M
  | _ => .stuck
def fC (d : D) : Env → Mem → Res D := fun _ M => .ok d M
theorem c_var {i : Nat} {x : Str} (hN : X.N[i]? = some x) (hv : Vis X.env.scope x) (hd : (x == ("__debug__" : Str)) = false := by decide) (hcd : (x == ("__classdict__" : Str)) = false := by decide) :
    PE X (.Name x pos) (T X.K S W (fVar i)) := ⟨fun pins s σ H Q I h => (pe_var hN hv hd hcd).run pins s σ H Q I (by
  obtain ⟨ρ, μ, ν, M, j, e, sr, o⟩ := h
  unfold fVar at o
  cases q : ρ[i]? with
  | none => rw [q] at o; exact o.elim
  | some od =>
    rw [q] at o
    cases od with
    | none => exact o.elim
    | some d =>
      obtain ⟨v, h1, h2⟩ := e.at_ i d q
      exact ⟨v, h1, o v H μ (Ext.refl _ _) h2 sr⟩)⟩
theorem const_ok {d : D} {v : V} {σ : L2.St} {H : Hp} {Q : VK} (h : T X.K S W (fC d) σ H Q) (r : ∀ K H μ ν, R K H μ ν d v) : Q v H := by
  obtain ⟨ρ, μ, ν, M, j, e, sr, o⟩ := h
  exact o v H μ (Ext.refl _ _) (r _ _ _ _) sr
theorem c_int {i : Int} {j : Nat} : PE X (.Constant (.int i) j pos) (T X.K S W (fC (.int i))) := ⟨fun pins s σ H Q I h => pe_int.run pins s σ H Q I (const_ok h fun _ _ _ _ => .int i)⟩
theorem c_bl {i : Bool} {j : Nat} : PE X (.Constant (.bool i) j pos) (T X.K S W (fC (.bl i))) := ⟨fun pins s σ H Q I h => pe_bl.run pins s σ H Q I (const_ok h fun _ _ _ _ => .bl i)⟩
theorem c_str {i : Str} {j : Nat} : PE X (.Constant (.str i) j pos) (T X.K S W (fC (.str i))) := ⟨fun pins s σ H Q I h => pe_str.run pins s σ H Q I (const_ok h fun _ _ _ _ => .str i)⟩
theorem c_non {j : Nat} : PE X (.Constant .none j pos) (T X.K S W (fC .non)) := ⟨fun pins s σ H Q I h => pe_non.run pins s σ H Q I (const_ok h fun _ _ _ _ => .non)⟩
theorem c_glob {x : Str} {i : Int} (hg : Gl X x) (hm : ∃ t, X.mg x = some (.int i t)) (hd : (x == ("__debug__" : Str)) = false := by decide) : PE X (.Name x pos) (T X.K S W (fC (.int i))) := ⟨fun pins s σ H Q I h => by
  obtain ⟨t, hm⟩ := hm
  exact (pe_glob (v := .int i) hg hm ⟨t, rfl⟩ hd).run pins s σ H Q I (const_ok h fun _ _ _ _ => .int i)⟩
/-! ### two-place operations -/
def rC2 (K : PySem.W.Frag) (Tb : List (Addr × Str)) (g : D → D → Mem → Res D) : R2 := fun x y H Q =>
  ∃ (W : WX) (σ : L2.St) (d e : D) (μ ν : List Addr) (M : Mem), R K H μ ν d x ∧ R K H μ ν e y ∧ SR K Tb H μ ν M ∧ Ok K Tb W σ ν (rD K) H μ Q (g d e M)
def fBin (g : D → D → Mem → Res D) (fa fb : Env → Mem → Res D) : Env → Mem → Res D := fun ρ M => (fa ρ M).bind fun d M1 => (fb ρ M1).bind fun e M2 => g d e M2
theorem bin_read {g : D → D → Mem → Res D} {σ : L2.St} {H : Hp} {Q : VK} (h : T X.K S W (fBin g fa fb) σ H Q) : tOp (rC2 X.K S.Tb g) (T X.K S W fa) (T X.K S W fb) σ H Q :=
  Tg.bind (k := fun ρ d M1 => (fb ρ M1).bind fun e M2 => g d e M2) h fun ρ μ ν M d x H1 j e s rd o =>
    ⟨ρ, μ, ν, M, j, e, s, Ok.bind o fun e' M2 y H2 μ2 x2 ry s2 o2 => ⟨W, σ, d, e', μ2, ν, M2, rd.ext x2, ry, s2, o2⟩⟩
theorem c_bin {g : D → D → Mem → Res D} (ho : OpR X (binaryOp op) (rC2 X.K S.Tb g)) (ha : PE X a (T X.K S W fa)) (hb : PE X b (T X.K S W fb)) : PE X (.BinOp a op b pos) (T X.K S W (fBin g fa fb)) :=
  ⟨fun pins s σ H Q I h => (pe_op ho ha hb).run pins s σ H Q I (bin_read h)⟩
theorem OpR.imp {f : Value → Value → Sem Value} {r r' : R2} (h : OpR X f r) (i : ∀ x y H Q, r' x y H Q → r x y H Q) : OpR X f r' := fun pins s σ H x y v u Q I rx ry q => h pins s σ H x y v u Q I rx ry (i _ _ _ _ q)
/-- a result that is a flat value -/
theorem Ok.flat {K Tb W σ ν H μ} {Q : VK} {d : D} {v : V} {M : Mem} (o : Ok K Tb W σ ν (rD K) H μ Q (.ok d M)) (r : R K H μ ν d v) (s : SR K Tb H μ ν M) : Q v H := o v H μ (Ext.refl _ _) r s
/-- .. a new tuple -/
theorem Ok.newTup {K Tb W σ ν H μ} {Q : VK} {ds : List D} {vs : List V} {M : Mem} (o : Ok K Tb W σ ν (rD K) H μ Q (.ok (.tup ds) M)) (r : Rs K H μ ν ds vs) (s : SR K Tb H μ ν M) {p : Addr} (hp : H p = none) : Q (.ref p) (upd H p (.tup vs)) :=
  o (.ref p) _ μ (ext_fresh hp (s.notin hp)) (.tup (.inl ⟨.inl upd_same, s.free hp⟩) (r.ext (ext_fresh hp (s.notin hp)))) (s.up (up_fresh hp))
/-- .. a new list -/
theorem Ok.newLst {K Tb W σ ν H μ} {Q : VK} {ds : List D} {vs : List V} {M : Mem} (o : Ok K Tb W σ ν (rD K) H μ Q (.ok (.lst ds) M)) (r : Rs K H μ ν ds vs) (s : SR K Tb H μ ν M) {p : Addr} (hp : H p = none) : Q (.ref p) (upd H p (.lst vs)) :=
  o (.ref p) _ μ (ext_fresh hp (s.notin hp)) (.lst ⟨upd_same, s.free hp⟩ (r.ext (ext_fresh hp (s.notin hp)))) (s.up (up_fresh hp))
def lstOf (M : Mem) : D → Option (List D)
  | .lst ds => some ds
  | .ref n => match M[n]? with
    | some (.lst ds) => some ds
    | none => none
  | _ => none
theorem lstOf_at {K Tb H μ ν M} {d : D} {x : V} {ds : List D} (r : R K H μ ν d x) (s : SR K Tb H μ ν M) (h : lstOf M d = some ds) : ∃ a vs, x = .ref a ∧ H a = some (.lst vs) ∧ Rs K H μ ν ds vs := by
  cases r with
  | non => cases h
  | bl _ => cases h
  | int _ => cases h
  | str _ => cases h
  | tup _ _ => cases h
  | scr _ _ => cases h
  | fn _ => cases h
  | dct _ => cases h
  | lst h1 h2 =>
    cases h
    exact ⟨_, _, rfl, h1.1, h2⟩
  | ref h1 =>
    rename_i n a
    unfold lstOf at h
    cases q : M[n]? with
    | none => simp only [q] at h; cases h
    | some u =>
      cases u with
      | lst es =>
        simp only [q] at h
        cases h
        obtain ⟨vs, e1, e2⟩ := s.get h1 q
        exact ⟨a, vs, rfl, e1, e2⟩
abbrev line : Nat := 16777216
theorem line_le {n : Nat} (h : n ≤ line) : n ≤ sizeLine := by rw [sizeLine_eq]; exact h
def gAdd : D → D → Mem → Res D := fun d e M => match d, e with
  | .int i, .int j => .ok (.int (i + j)) M
  | .str x, .str y => if x.length + y.length ≤ line then .ok (.str (x ++ y)) M else .stuck
  | .tup xs, .tup ys => if xs.length + ys.length ≤ line then .ok (.tup (xs ++ ys)) M else .stuck
  | d, e => match lstOf M d, lstOf M e with
    | some xs, some ys => if xs.length + ys.length ≤ line then .ok (.lst (xs ++ ys)) M else .stuck
    | _, _ => .stuck
theorem lst_add {K Tb H μ ν M W σ Q} {d e : D} {x y : V} (rd : R K H μ ν d x) (re : R K H μ ν e y) (s : SR K Tb H μ ν M)
    (o : Ok K Tb W σ ν (rD K) H μ Q (match lstOf M d, lstOf M e with
      | some xs, some ys => if xs.length + ys.length ≤ line then .ok (.lst (xs ++ ys)) M else .stuck
      | _, _ => .stuck)) : rCat x y H Q := by
  cases hd : lstOf M d with
  | none => simp only [hd] at o; exact o.elim
  | some xs =>
    cases he : lstOf M e with
    | none => simp only [hd, he] at o; exact o.elim
    | some ys =>
      simp only [hd, he] at o
      by_cases hl : xs.length + ys.length ≤ line
      · rw [if_pos hl] at o
        obtain ⟨a, vs, rfl, h1, h2⟩ := lstOf_at rd s hd
        obtain ⟨b, ws, rfl, h3, h4⟩ := lstOf_at re s he
        exact ⟨a, b, vs, ws, rfl, rfl, h1, h3, line_le (by rw [← h2.length, ← h4.length]; exact hl), fun p hp => o.newLst (h2.append h4) s hp⟩
      · rw [if_neg hl] at o
        exact o.elim
theorem c_add_op : OpR X (binaryOp .Add) (rC2 X.K S.Tb gAdd) := by
  refine OpR.imp (OpR.or op_add (OpR.or op_add_str (OpR.or op_catA op_cat))) fun x y H Q h => ?_
  obtain ⟨W, σ, d, e, μ, ν, M, rd, re, s, o⟩ := h
  have rd0 := rd
  have re0 := re
  cases rd with
  | int i =>
    cases re with
    | int j => exact .inl ⟨i, j, rfl, rfl, o.flat (.int _) s⟩
    | _ => exact .inr (.inr (.inr (lst_add rd0 re0 s o)))
  | str i =>
    cases re with
    | str j =>
      have o' : Ok X.K S.Tb W σ ν (rD X.K) H μ Q (if i.length + j.length ≤ line then .ok (.str (i ++ j)) M else .stuck) := o
      by_cases hl : i.length + j.length ≤ line
      · rw [if_pos hl] at o'
        exact .inr (.inl ⟨i, j, rfl, rfl, line_le hl, o'.flat (.str _) s⟩)
      · rw [if_neg hl] at o'
        exact o'.elim
    | _ => exact .inr (.inr (.inr (lst_add rd0 re0 s o)))
  | tup h1 h2 =>
    rename_i p vs ds
    cases re with
    | tup h3 h4 =>
      rename_i p' ws es
      have o' : Ok X.K S.Tb W σ ν (rD X.K) H μ Q (if ds.length + es.length ≤ line then .ok (.tup (ds ++ es)) M else .stuck) := o
      by_cases hl : ds.length + es.length ≤ line
      · rw [if_pos hl] at o'
        refine .inr (.inr (.inl ⟨p, p', vs, ws, rfl, rfl, h1.seq, h3.seq, line_le (by rw [← h2.length, ← h4.length]; exact hl), fun z => ?_, fun z1 z2 => ?_, fun z1 z2 q hq => ?_⟩))
        · subst z
          cases h2
          exact o'.flat (.tup h3 h4) s
        · subst z2
          cases h4
          rw [List.append_nil] at o'
          exact o'.flat (.tup h1 h2) s
        · exact o'.newTup (h2.append h4) s hq
      · rw [if_neg hl] at o'
        exact o'.elim
    | _ => exact .inr (.inr (.inr (lst_add rd0 re0 s o)))
  | non => cases re <;> exact .inr (.inr (.inr (lst_add rd0 re0 s o)))
  | bl q => cases re <;> exact .inr (.inr (.inr (lst_add rd0 re0 s o)))
  | lst h1 h2 => cases re <;> exact .inr (.inr (.inr (lst_add rd0 re0 s o)))
  | ref h1 => cases re <;> exact .inr (.inr (.inr (lst_add rd0 re0 s o)))
  | scr h1 h2 => cases re <;> exact .inr (.inr (.inr (lst_add rd0 re0 s o)))
  | dct x => cases re <;> exact .inr (.inr (.inr (lst_add rd0 re0 s o)))
  | fn x => cases re <;> exact .inr (.inr (.inr (lst_add rd0 re0 s o)))
end
end SD

set_option Elab.async false
set_option linter.all false
set_option maxRecDepth 100000
set_option maxHeartbeats 4000000
namespace SD
open PySem PySem.Spec PyProof.Rows L2
section
variable {X : Cx} {S : Side} {W : WX} {a b c e : Expr} {fa fb fc : Env → Mem → Res D} {pos : Pos} {op : Operator}
/-! ### whole numbers -/
def gSub : D → D → Mem → Res D := fun d e M => match d, e with
  | .int i, .int j => .ok (.int (i - j)) M
  | _, _ => .stuck
def big : Int := 18446744073709551616
def gMulI (i j : Int) (M : Mem) : Res D := if (-big < i ∧ i < big) ∨ (-big < j ∧ j < big) then .ok (.int (i * j)) M else .stuck
def gDiv : D → D → Mem → Res D := fun d e M => match d, e with
  | .int i, .int j => if 0 < j ∧ j < 1073741824 then .ok (.int (i / j)) M else .stuck
  | _, _ => .stuck
def gMod : D → D → Mem → Res D := fun d e M => match d, e with
  | .int i, .int j => if 0 < j then .ok (.int (i % j)) M else .stuck
  | _, _ => .stuck
def gPow : D → D → Mem → Res D := fun d e M => match d, e with
  | .int i, .int j => if 0 ≤ j ∧ j ≤ 1000000 ∧ i.natAbs < 18446744073709551616 then .ok (.int (i ^ j.toNat)) M else .stuck
  | _, _ => .stuck
theorem int2 {g : D → D → Mem → Res D} {r : R2} {f : Value → Value → Sem Value} (ho : OpR X f r) (hg : ∀ d e M, g d e M ≠ .stuck → ∃ i j, d = .int i ∧ e = .int j)
    (hi : ∀ K Tb W σ H μ ν M i j Q, Ok K Tb W σ ν (rD K) H μ Q (g (.int i) (.int j) M) → SR K Tb H μ ν M → r (.int i) (.int j) H Q) : OpR X f (rC2 X.K S.Tb g) :=
  OpR.imp ho fun x y H Q h => by
    obtain ⟨W, σ, d, e, μ, ν, M, rd, re, s, o⟩ := h
    obtain ⟨i, j, rfl, rfl⟩ := hg d e M (fun z => by rw [z] at o; exact o)
    cases rd
    cases re
    exact hi _ _ _ _ _ _ _ _ _ _ _ o s
theorem c_sub_op : OpR X (binaryOp .Sub) (rC2 X.K S.Tb gSub) := int2 op_sub (fun d e M h => by
  unfold gSub at h
  split at h
  · exact ⟨_, _, rfl, rfl⟩
  · exact absurd rfl h) fun K Tb W σ H μ ν M i j Q o s => ⟨i, j, rfl, rfl, Ok.flat o (.int _) s⟩
theorem c_div_op : OpR X (binaryOp .FloorDiv) (rC2 X.K S.Tb gDiv) := int2 op_fdiv (fun d e M h => by
  unfold gDiv at h
  split at h
  · exact ⟨_, _, rfl, rfl⟩
  · exact absurd rfl h) fun K Tb W σ H μ ν M i j Q o s => by
    have o' : Ok K Tb W σ ν (rD K) H μ Q (if 0 < j ∧ j < 1073741824 then .ok (.int (i / j)) M else .stuck) := o
    by_cases h : 0 < j ∧ j < 1073741824
    · rw [if_pos h] at o'
      exact ⟨i, j, rfl, rfl, h, o'.flat (.int _) s⟩
    · rw [if_neg h] at o'
      exact o'.elim
theorem c_mod_op : OpR X (binaryOp .Mod) (rC2 X.K S.Tb gMod) := int2 op_mod (fun d e M h => by
  unfold gMod at h
  split at h
  · exact ⟨_, _, rfl, rfl⟩
  · exact absurd rfl h) fun K Tb W σ H μ ν M i j Q o s => by
    have o' : Ok K Tb W σ ν (rD K) H μ Q (if 0 < j then .ok (.int (i % j)) M else .stuck) := o
    by_cases h : 0 < j
    · rw [if_pos h] at o'
      exact ⟨i, j, rfl, rfl, h, o'.flat (.int _) s⟩
    · rw [if_neg h] at o'
      exact o'.elim
theorem c_pow_op : OpR X (binaryOp .Pow) (rC2 X.K S.Tb gPow) := int2 op_pow (fun d e M h => by
  unfold gPow at h
  split at h
  · exact ⟨_, _, rfl, rfl⟩
  · exact absurd rfl h) fun K Tb W σ H μ ν M i j Q o s => by
    have o' : Ok K Tb W σ ν (rD K) H μ Q (if 0 ≤ j ∧ j ≤ 1000000 ∧ i.natAbs < 18446744073709551616 then .ok (.int (i ^ j.toNat)) M else .stuck) := o
    by_cases h : 0 ≤ j ∧ j ≤ 1000000 ∧ i.natAbs < 18446744073709551616
    · rw [if_pos h] at o'
      exact ⟨i, j, rfl, rfl, ⟨h.1, h.2.1, h.2.2⟩, o'.flat (.int _) s⟩
    · rw [if_neg h] at o'
      exact o'.elim
/-! ### comparisons of data -/
mutual
def toPy0 : D → Option PyData
  | .non => some .none
  | .bl b => some (.bool b)
  | .int i => some (.int i)
  | .str x => some (.str x)
  | .tup ds => match toPy0s ds with
    | some ps => some (.tuple ps)
    | none => none
  | .lst ds => match toPy0s ds with
    | some ps => some (.list ps)
    | none => none
  | .scr ds => match toPy0s ds with
    | some ps => some (.list ps)
    | none => none
  | .ref _ => none
  | .fn _ => none
  | .dct _ => none
def toPy0s : List D → Option (List PyData)
  | [] => some []
  | d :: ds => match toPy0 d, toPy0s ds with
    | some p, some ps => some (p :: ps)
    | _, _ => none
end
def toPy (M : Mem) (d : D) : Option PyData := match d with
  | .ref n => match M[n]? with
    | some (.lst ds) => match toPy0s ds with
      | some ps => some (.list ps)
      | none => none
    | none => none
  | d => toPy0 d
mutual
theorem dp_of {K : PySem.W.Frag} {H : Hp} {μ ν : List Addr} : ∀ {d : D} {x : V} {p : PyData}, R K H μ ν d x → toPy0 d = some p → Dp K H x p
  | _, _, _, .non, h => by cases h; exact .non
  | _, _, _, .bl b, h => by cases h; exact .bl b
  | _, _, _, .int i, h => by cases h; exact .int i
  | _, _, _, .str x, h => by cases h; exact .str x
  | .tup ds, _, p, .tup h1 h2, h => by
    rw [toPy0] at h
    cases q : toPy0s ds with
    | none => rw [q] at h; cases h
    | some ps => rw [q] at h; cases h; exact .tup h1.seq (dps_of h2 q)
  | .lst ds, _, p, .lst h1 h2, h => by
    rw [toPy0] at h
    cases q : toPy0s ds with
    | none => rw [q] at h; cases h
    | some ps => rw [q] at h; cases h; exact .lst (.inl (.inl h1.1)) (dps_of h2 q)
  | .scr ds, _, p, .scr h1 h2, h => by
    rw [toPy0] at h
    cases q : toPy0s ds with
    | none => rw [q] at h; cases h
    | some ps => rw [q] at h; cases h; exact .lst h1.seq (dps_of h2 q)
  | _, _, _, .ref _, h => by rw [toPy0] at h; cases h
  | _, _, _, .fn _, h => by rw [toPy0] at h; cases h
  | _, _, _, .dct _, h => by rw [toPy0] at h; cases h
theorem dps_of {K : PySem.W.Frag} {H : Hp} {μ ν : List Addr} : ∀ {ds : List D} {xs : List V} {ps : List PyData}, Rs K H μ ν ds xs → toPy0s ds = some ps → DpAll K H xs ps
  | _, _, _, .nil, h => by cases h; exact .nil
  | d :: ds, _, ps, .cons h1 h2, h => by
    rw [toPy0s] at h
    cases q1 : toPy0 d with
    | none => rw [q1] at h; cases h
    | some p =>
      cases q2 : toPy0s ds with
      | none => rw [q1, q2] at h; cases h
      | some qs => rw [q1, q2] at h; cases h; exact .cons (dp_of h1 q1) (dps_of h2 q2)
end
theorem dpm_of {K : PySem.W.Frag} {Tb : List (Addr × Str)} {H : Hp} {μ ν : List Addr} {M : Mem} {d : D} {x : V} {p : PyData} (s : SR K Tb H μ ν M) (r : R K H μ ν d x) (h : toPy M d = some p) : Dp K H x p := by
  cases r with
  | ref h1 =>
    rename_i n a
    unfold toPy at h
    cases q : M[n]? with
    | none => simp only [q] at h; cases h
    | some u =>
      cases u with
      | lst ds =>
        simp only [q] at h
        cases q2 : toPy0s ds with
        | none => rw [q2] at h; cases h
        | some ps =>
          rw [q2] at h
          cases h
          obtain ⟨vs, e1, e2⟩ := s.get h1 q
          exact .lst (.inl (.inl e1)) (dps_of e2 q2)
  | non => exact dp_of (μ := μ) (ν := ν) .non h
  | bl b => exact dp_of (μ := μ) (ν := ν) (.bl b) h
  | int b => exact dp_of (μ := μ) (ν := ν) (.int b) h
  | str b => exact dp_of (μ := μ) (ν := ν) (.str b) h
  | tup h1 h2 => exact dp_of (μ := μ) (ν := ν) (.tup h1 h2) h
  | lst h1 h2 => exact dp_of (μ := μ) (ν := ν) (.lst h1 h2) h
  | scr h1 h2 => exact dp_of (μ := μ) (ν := ν) (.scr h1 h2) h
  | fn x => exact dp_of (μ := μ) (ν := ν) (.fn x) h
  | dct x => exact dp_of (μ := μ) (ν := ν) (.dct x) h
def gCmp (ok : PyData → PyData → Bool) (k : PyData → PyData → Bool) : D → D → Mem → Res D := fun d e M => match toPy M d, toPy M e with
  | some p, some q => if ok p q = true then .ok (.bl (k p q)) M else .stuck
  | _, _ => .stuck
def okEq (p q : PyData) : Bool := SeqAt.shaped p && SeqAt.shaped q
def gEq : D → D → Mem → Res D := gCmp okEq PyData.eqv
def gNe : D → D → Mem → Res D := gCmp okEq fun p q => !PyData.eqv p q
theorem cmp_out {K Tb H μ ν M W σ Q ok k} {d e : D} {x y : V} (rd : R K H μ ν d x) (re : R K H μ ν e y) (s : SR K Tb H μ ν M) (o : Ok K Tb W σ ν (rD K) H μ Q (gCmp ok k d e M)) :
    ∃ p q, Dp K H x p ∧ Dp K H y q ∧ ok p q = true ∧ Q (.bl (k p q)) H := by
  unfold gCmp at o
  cases h1 : toPy M d with
  | none => rw [h1] at o; exact o.elim
  | some p =>
    cases h2 : toPy M e with
    | none => rw [h1, h2] at o; exact o.elim
    | some q =>
      rw [h1, h2] at o
      simp only at o
      by_cases h : ok p q = true
      · rw [if_pos h] at o
        exact ⟨p, q, dpm_of s rd h1, dpm_of s re h2, h, Ok.flat o (.bl _) s⟩
      · rw [if_neg h] at o
        exact o.elim
theorem c_eq_op (hu : X.A.units + 64 < cLine) : OpR X (compareOp .Eq) (rC2 X.K S.Tb gEq) := OpR.imp (op_eqD hu) fun x y H Q h => by
  obtain ⟨W, σ, d, e, μ, ν, M, rd, re, s, o⟩ := h
  obtain ⟨p, q, h1, h2, h3, h4⟩ := cmp_out rd re s o
  unfold okEq at h3
  rw [Bool.and_eq_true] at h3
  exact ⟨p, q, h1, h2, h3.1, h3.2, h4⟩
theorem c_ne_op (hu : X.A.units + 64 < cLine) : OpR X (compareOp .NotEq) (rC2 X.K S.Tb gNe) := OpR.imp (op_neD hu) fun x y H Q h => by
  obtain ⟨W, σ, d, e, μ, ν, M, rd, re, s, o⟩ := h
  obtain ⟨p, q, h1, h2, h3, h4⟩ := cmp_out rd re s o
  unfold okEq at h3
  rw [Bool.and_eq_true] at h3
  exact ⟨p, q, h1, h2, h3.1, h3.2, h4⟩
def notNone : PyData → Bool
  | .none => false
  | _ => true
def okLt (p q : PyData) : Bool := PySem.W.alike p q && notNone p && decide (p.depth ≤ 64)
def gLt : D → D → Mem → Res D := gCmp okLt PySem.W.dataLt
def gGt : D → D → Mem → Res D := gCmp okLt fun p q => PySem.W.dataLt q p
def gLe : D → D → Mem → Res D := gCmp okLt fun p q => !PySem.W.dataLt q p
def gGe : D → D → Mem → Res D := gCmp okLt fun p q => !PySem.W.dataLt p q
theorem ord_op {op : CmpOp} {k : PyData → PyData → Bool}
    (hr : ∀ (s : Shared) (v u : Value) (p q : PyData) (as bs : List Addr) (Q : Value → Shared → Prop) (E : Value → Shared → Prop), Reads s.heap v p as → Reads s.heap u q bs → PySem.W.alike p q = true → p ≠ .none → X.A.units + min p.depth q.depth < cLine → Q (.bool (k p q)) s →
      wpAny (model X.prog X.w) X.A (compareOp op v u) Q E s) (hu : X.A.units + 64 < cLine) : OpR X (compareOp op) (rC2 X.K S.Tb (gCmp okLt k)) := by
  intro pins s σ H x y v u Q I rx ry h
  obtain ⟨W, σ', d, e, μ, ν, M, rd, re, sr, o⟩ := h
  obtain ⟨p, q, h1, h2, h3, h4⟩ := cmp_out rd re sr o
  obtain ⟨as, r1⟩ := Dp.reads I p x v h1 rx
  obtain ⟨bs, r2⟩ := Dp.reads I q y u h2 ry
  unfold okLt at h3
  simp only [Bool.and_eq_true, decide_eq_true_eq] at h3
  refine hr s v u p q as bs _ _ r1 r2 h3.1.1 (fun z => ?_) ?_ ⟨.bl _, H, I, rfl, h4⟩
  · rw [z] at h3
    exact Bool.noConfusion h3.1.2
  · have : min p.depth q.depth ≤ p.depth := Nat.min_le_left _ _
    omega
theorem c_lt_op (hu : X.A.units + 64 < cLine) : OpR X (compareOp .Lt) (rC2 X.K S.Tb gLt) := ord_op (fun s v u p q as bs Q E r1 r2 h hn hu hq => PySem.W.lt_data r1 r2 h hn hu hq) hu
theorem c_gt_op (hu : X.A.units + 64 < cLine) : OpR X (compareOp .Gt) (rC2 X.K S.Tb gGt) := ord_op (fun s v u p q as bs Q E r1 r2 h hn hu hq => PySem.W.gt_data r1 r2 h hn hu hq) hu
theorem c_le_op (hu : X.A.units + 64 < cLine) : OpR X (compareOp .LtE) (rC2 X.K S.Tb gLe) := ord_op (fun s v u p q as bs Q E r1 r2 h hn hu hq => PySem.W.le_data r1 r2 h hn hu hq) hu
theorem c_ge_op (hu : X.A.units + 64 < cLine) : OpR X (compareOp .GtE) (rC2 X.K S.Tb gGe) := ord_op (fun s v u p q as bs Q E r1 r2 h hn hu hq => PySem.W.ge_data r1 r2 h hn hu hq) hu
def gIs : D → D → Mem → Res D := fun d e M => match e with
  | .non => .ok (.bl (match d with | .non => true | _ => false)) M
  | _ => .stuck
def gIsNot : D → D → Mem → Res D := fun d e M => match e with
  | .non => .ok (.bl (match d with | .non => false | _ => true)) M
  | _ => .stuck
theorem c_is_op : OpR X (compareOp .Is) (rC2 X.K S.Tb gIs) := OpR.imp op_isN fun x y H Q h => by
  obtain ⟨W, σ, d, e, μ, ν, M, rd, re, s, o⟩ := h
  cases re with
  | non => cases rd <;> exact ⟨rfl, Ok.flat o (.bl _) s⟩
  | _ => exact o.elim
theorem c_isnot_op : OpR X (compareOp .IsNot) (rC2 X.K S.Tb gIsNot) := OpR.imp op_notN fun x y H Q h => by
  obtain ⟨W, σ, d, e, μ, ν, M, rd, re, s, o⟩ := h
  cases re with
  | non => cases rd <;> exact ⟨rfl, Ok.flat o (.bl _) s⟩
  | _ => exact o.elim
/-- x in a list or a tuple of flat things -/
def flatD : D → Bool
  | .non => true
  | .bl _ => true
  | .int _ => true
  | .str _ => true
  | _ => false
def eqF : D → D → Bool
  | .non, .non => true
  | .bl a, .bl b => a == b
  | .bl a, .int b => (if a then 1 else 0) == b
  | .int a, .bl b => a == (if b then 1 else 0)
  | .int a, .int b => a == b
  | .str a, .str b => a == b
  | _, _ => false
def seqOf (M : Mem) : D → Option (List D)
  | .tup ds => some ds
  | .scr ds => some ds
  | d => lstOf M d
theorem flat_R {K H μ ν} {d : D} {x : V} (r : R K H μ ν d x) (f : flatD d = true) : flatV x = true := by
  cases r <;> first | rfl | cases f
theorem eqF_R {K H μ ν} {d e : D} {x y : V} (r : R K H μ ν d x) (q : R K H μ ν e y) (f : flatD d = true) (g : flatD e = true) : eqV x y = eqF d e := by
  cases r <;> first | (cases f; done) | skip
  all_goals (cases q <;> first | (cases g; done) | rfl)
theorem allFlat_R {K H μ ν} : ∀ {ds : List D} {xs : List V}, Rs K H μ ν ds xs → ds.all flatD = true → xs.all flatV = true
  | _, _, .nil, _ => rfl
  | _, _, .cons r t, h => by
    rw [List.all_cons, Bool.and_eq_true] at h
    rw [List.all_cons, Bool.and_eq_true]
    exact ⟨flat_R r h.1, allFlat_R t h.2⟩
theorem inV_R {K H μ ν} {d : D} {x : V} (r : R K H μ ν d x) (f : flatD d = true) : ∀ {ds : List D} {xs : List V}, Rs K H μ ν ds xs → ds.all flatD = true → inV x xs = ds.any fun y => eqF y d
  | _, _, .nil, _ => rfl
  | _, _, .cons (d := d') (v := v') q t, h => by
    rw [List.all_cons, Bool.and_eq_true] at h
    have ih := inV_R r f t h.2
    unfold inV at ih ⊢
    rw [List.any_cons, List.any_cons, ih, eqF_R q r h.1 f]
theorem seqOf_at {K Tb H μ ν M} {d : D} {x : V} {ds : List D} (r : R K H μ ν d x) (s : SR K Tb H μ ν M) (h : seqOf M d = some ds) : ∃ a vs, x = .ref a ∧ (SqL K H a vs ∨ SqT K H a vs) ∧ Rs K H μ ν ds vs := by
  have r0 := r
  cases r with
  | tup h1 h2 => cases h; exact ⟨_, _, rfl, .inr h1.seq, h2⟩
  | scr h1 h2 => cases h; exact ⟨_, _, rfl, .inl h1.seq, h2⟩
  | _ =>
    obtain ⟨a, vs, e, h1, h2⟩ := lstOf_at r0 s h
    exact ⟨a, vs, e, .inl (.inl (.inl h1)), h2⟩
def gIn (neg : Bool) : D → D → Mem → Res D := fun d e M => match seqOf M e with
  | some ds => if flatD d = true ∧ ds.all flatD = true then .ok (.bl (if neg then !(ds.any fun y => eqF y d) else ds.any fun y => eqF y d)) M else .stuck
  | none => .stuck
theorem in_out {K Tb H μ ν M W σ Q neg} {d e : D} {x y : V} (rd : R K H μ ν d x) (re : R K H μ ν e y) (s : SR K Tb H μ ν M) (o : Ok K Tb W σ ν (rD K) H μ Q (gIn neg d e M)) : rIn K neg x y H Q := by
  unfold gIn at o
  cases h1 : seqOf M e with
  | none => rw [h1] at o; exact o.elim
  | some ds =>
    rw [h1] at o
    simp only at o
    by_cases h : flatD d = true ∧ ds.all flatD = true
    · rw [if_pos h] at o
      obtain ⟨a, vs, rfl, h3, h4⟩ := seqOf_at re s h1
      refine ⟨a, vs, rfl, h3, flat_R rd h.1, allFlat_R h4 h.2, ?_⟩
      rw [inV_R rd h.1 h4 h.2]
      exact Ok.flat o (.bl _) s
    · rw [if_neg h] at o
      exact o.elim
theorem c_in_op : OpR X (compareOp .In) (rC2 X.K S.Tb (gIn false)) := OpR.imp op_in_seq fun x y H Q h => by
  obtain ⟨W, σ, d, e, μ, ν, M, rd, re, s, o⟩ := h
  exact in_out rd re s o
theorem c_notin_op : OpR X (compareOp .NotIn) (rC2 X.K S.Tb (gIn true)) := OpR.imp op_notIn_seq fun x y H Q h => by
  obtain ⟨W, σ, d, e, μ, ν, M, rd, re, s, o⟩ := h
  exact in_out rd re s o
theorem c_cmp {op : CmpOp} {g : D → D → Mem → Res D} (ho : OpR X (compareOp op) (rC2 X.K S.Tb g)) (ha : PE X a (T X.K S W fa)) (hb : PE X b (T X.K S W fb)) (hm : behindInMarks op b = false) :
    PE X (.Compare a [op] [b] pos) (T X.K S W (fBin g fa fb)) := ⟨fun pins s σ H Q I h => (pe_cmpR ho ha hb hm).run pins s σ H Q I (bin_read h)⟩
/-- a op1 b op2 c -/
def fChain (g g' : D → D → Mem → Res D) (fa fb fc : Env → Mem → Res D) : Env → Mem → Res D := fun ρ M => (fa ρ M).bind fun d M1 => (fb ρ M1).bind fun e M2 => (g d e M2).bind fun k M3 => match k with
  | .bl true => (fc ρ M3).bind fun e' M4 => g' e e' M4
  | .bl false => .ok (.bl false) M3
  | _ => .stuck
theorem chain_read {g g' : D → D → Mem → Res D} {σ : L2.St} {H : Hp} {Q : VK} (h : T X.K S W (fChain g g' fa fb fc) σ H Q) :
    tChain (rC2 X.K S.Tb g) (rC2 X.K S.Tb g') (T X.K S W fa) (T X.K S W fb) (T X.K S W fc) σ H Q :=
  Tg.bind (k := fun ρ d M1 => (fb ρ M1).bind fun e M2 => (g d e M2).bind fun k M3 => match k with
    | .bl true => (fc ρ M3).bind fun e' M4 => g' e e' M4
    | .bl false => .ok (.bl false) M3
    | _ => .stuck) h fun ρ μ ν M d x H1 j e s rd o =>
    ⟨ρ, μ, ν, M, j, e, s, Ok.bind o fun e' M2 y H2 μ2 x2 ry s2 o2 => ⟨W, σ, d, e', μ2, ν, M2, rd.ext x2, ry, s2, Ok.bind o2 fun k M3 z H3 μ3 x3 rz s3 o3 => by
      cases rz with
      | bl q =>
        refine ⟨q, rfl, ?_⟩
        cases q with
        | true =>
          rw [if_pos rfl]
          exact ⟨ρ, μ3, ν, M3, S.st j (x2.trans x3), e.ext (x2.trans x3), s3, Ok.bind o3 fun e3 M4 w' H4 μ4 x4 rw' s4 o4 => ⟨W, σ, e', e3, μ4, ν, M4, ry.ext (x3.trans x4), rw', s4, o4⟩⟩
        | false =>
          rw [if_neg Bool.false_ne_true]
          exact Ok.flat o3 (.bl _) s3
      | _ => exact o3.elim⟩⟩
theorem c_chain {op op' : CmpOp} {g g' : D → D → Mem → Res D} (ho : OpR X (compareOp op) (rC2 X.K S.Tb g)) (ho' : OpR X (compareOp op') (rC2 X.K S.Tb g')) (ha : PE X a (T X.K S W fa)) (hb : PE X b (T X.K S W fb)) (hc : PE X c (T X.K S W fc))
    (hm : lastMarks [op, op'] [b, c] = false := by with_unfolding_all rfl) : PE X (.Compare a [op, op'] [b, c] pos) (T X.K S W (fChain g g' fa fb fc)) :=
  ⟨fun pins s σ H Q I h => (pe_chain ho ho' ha hb hc hm).run pins s σ H Q I (chain_read h)⟩
end
end SD

set_option Elab.async false
set_option linter.all false
set_option maxRecDepth 100000
set_option maxHeartbeats 4000000
namespace SD
open PySem PySem.Spec PyProof.Rows L2
section
variable {X : Cx} {S : Side} {W : WX} {a b c e : Expr} {fa fb fc f : Env → Mem → Res D} {pos : Pos} {op : Operator}
/-! ### truth -/
def truD (M : Mem) : D → Option Bool
  | .non => some false
  | .bl b => some b
  | .int i => some (i != 0)
  | .str x => if x.length ≤ line then some ((x.length : Int) != 0) else none
  | .tup ds => some (!ds.isEmpty)
  | .lst ds => some (!ds.isEmpty)
  | .scr ds => some (!ds.isEmpty)
  | .fn _ => none
  | .dct _ => none
  | .ref n => match M[n]? with
    | some (.lst ds) => some (!ds.isEmpty)
    | none => none
theorem empty_R {K H μ ν} {ds : List D} {vs : List V} (r : Rs K H μ ν ds vs) : vs.isEmpty = ds.isEmpty := by cases r <;> rfl
theorem tru_R {K Tb H μ ν M} {d : D} {x : V} {k : Bool} (r : R K H μ ν d x) (s : SR K Tb H μ ν M) (h : truD M d = some k) : TruV K x H k := by
  cases r with
  | non => cases h; rfl
  | bl b => cases h; rfl
  | int i => cases h; rfl
  | str x =>
    have h : (if x.length ≤ line then some ((x.length : Int) != 0) else none) = some k := h
    by_cases q : x.length ≤ line
    · rw [if_pos q] at h
      cases h
      exact ⟨line_le q, rfl⟩
    · rw [if_neg q] at h
      cases h
  | tup h1 h2 => cases h; exact .inr (.inl ⟨_, h1.seq, by rw [empty_R h2]⟩)
  | lst h1 h2 => cases h; exact .inl ⟨_, .inl (.inl h1.1), by rw [empty_R h2]⟩
  | scr h1 h2 => cases h; exact .inl ⟨_, h1.seq, by rw [empty_R h2]⟩
  | fn x => cases h
  | dct x => cases h
  | ref h1 =>
    rename_i n a
    unfold truD at h
    cases q : M[n]? with
    | none => simp only [q] at h; cases h
    | some u =>
      cases u with
      | lst ds =>
        simp only [q] at h
        cases h
        obtain ⟨vs, e1, e2⟩ := s.get h1 q
        exact .inl ⟨vs, .inl (.inl e1), by rw [empty_R e2]⟩
def fTr (f : Env → Mem → Res D) : Env → Mem → Res Bool := fun ρ M => (f ρ M).bind fun d M1 => match truD M1 d with
  | some k => .ok k M1
  | none => .stuck
theorem c_tr (he : PE X e (T X.K S W f)) (hi : ∀ whole, isTrue e X.env whole = (do let v ← whole; standAt e.pos; holding [v] (truthy v)) := by intro _; rfl) : PT X e (TB X.K S W (fTr f)) :=
  ⟨fun pins s σ H Q I h => (pt_truth he hi).run pins s σ H Q I (Tg.bind (k := fun _ d M1 => match truD M1 d with
    | some k => .ok k M1
    | none => .stuck) h fun ρ μ ν M d x H1 j e s rd o => by
      cases q : truD M d with
      | none => rw [q] at o; exact o.elim
      | some k =>
        rw [q] at o
        exact ⟨k, tru_R rd s q, o k H1 μ (Ext.refl _ _) rfl s⟩)⟩
def fAndT (f g : Env → Mem → Res Bool) : Env → Mem → Res Bool := fun ρ M => (f ρ M).bind fun k M1 => if k = true then g ρ M1 else .ok false M1
def fOrT (f g : Env → Mem → Res Bool) : Env → Mem → Res Bool := fun ρ M => (f ρ M).bind fun k M1 => if k = true then .ok true M1 else g ρ M1
def fNotT (f : Env → Mem → Res Bool) : Env → Mem → Res Bool := fun ρ M => (f ρ M).bind fun k M1 => .ok (!k) M1
variable {t u : Env → Mem → Res Bool} {rest : List Expr}
theorem _root_.L2.PW.imp {X : Cx} {e : Expr} {t t' : TT} (h : PW X e t) (i : ∀ σ H Q, t' σ H Q → t σ H Q) : PW X e t' := ⟨fun whole pins s σ H Q I q => h.run whole pins s σ H Q I (i _ _ _ q)⟩
theorem _root_.L2.PT.imp {X : Cx} {e : Expr} {t t' : TT} (h : PT X e t) (i : ∀ σ H Q, t' σ H Q → t σ H Q) : PT X e t' := ⟨fun pins s σ H Q I q => h.run pins s σ H Q I (i _ _ _ q)⟩
theorem _root_.L2.PE.imp {X : Cx} {e : Expr} {t t' : TE} (h : PE X e t) (i : ∀ σ H Q, t' σ H Q → t σ H Q) : PE X e t' := ⟨fun pins s σ H Q I q => h.run pins s σ H Q I (i _ _ _ q)⟩
theorem _root_.L2.PA.imp {X : Cx} {e : List Expr} {t t' : TA} (h : PA X e t) (i : ∀ σ H Q, t' σ H Q → t σ H Q) : PA X e t' := ⟨fun p pins s σ H Q I q => h.run p pins s σ H Q I (i _ _ _ q)⟩
theorem _root_.L2.PS.imp {X : Cx} {e : Stmt} {t t' : TS} (h : PS X e t) (i : ∀ D σ H, t' D σ H → t D σ H) : PS X e t' := ⟨fun pins s σ H Q I q => h.run pins s σ H Q I (i _ _ _ q)⟩
theorem _root_.L2.PSs.imp {X : Cx} {e : List Stmt} {t t' : TS} (h : PSs X e t) (i : ∀ D σ H, t' D σ H → t D σ H) : PSs X e t' := ⟨fun pins s σ H Q I q => h.run pins s σ H Q I (i _ _ _ q)⟩
theorem cw_and1 (ha : PT X a (TB X.K S W t)) : PW X (.BoolOp .And [a] pos) (TB X.K S W t) := pw_and1 ha
theorem cw_or1 (ha : PT X a (TB X.K S W t)) : PW X (.BoolOp .Or [a] pos) (TB X.K S W t) := pw_or1 ha
theorem cw_and (ha : PT X a (TB X.K S W t)) (hb : PW X (.BoolOp .And (b :: rest) pos) (TB X.K S W u)) : PW X (.BoolOp .And (a :: b :: rest) pos) (TB X.K S W (fAndT t u)) :=
  (pw_and ha hb).imp fun σ H Q h => Tg.bind (k := fun ρ k M1 => if k = true then u ρ M1 else .ok false M1) h fun ρ μ ν M k k' H1 j e s rd o => by
    cases rd
    cases k with
    | true => exact ⟨ρ, μ, ν, M, j, e, s, o⟩
    | false => exact o false H1 μ (Ext.refl _ _) rfl s
theorem cw_or (ha : PT X a (TB X.K S W t)) (hb : PW X (.BoolOp .Or (b :: rest) pos) (TB X.K S W u)) : PW X (.BoolOp .Or (a :: b :: rest) pos) (TB X.K S W (fOrT t u)) :=
  (pw_or ha hb).imp fun σ H Q h => Tg.bind (k := fun ρ k M1 => if k = true then .ok true M1 else u ρ M1) h fun ρ μ ν M k k' H1 j e s rd o => by
    cases rd
    cases k with
    | true => exact o true H1 μ (Ext.refl _ _) rfl s
    | false => exact ⟨ρ, μ, ν, M, j, e, s, o⟩
theorem ct_not (ha : PT X a (TB X.K S W t)) : PT X (.UnaryOp .Not a pos) (TB X.K S W (fNotT t)) :=
  (pt_not ha).imp fun σ H Q h => Tg.bind (k := fun ρ k M1 => .ok (!k) M1) h fun ρ μ ν M k k' H1 j e s rd o => by
    cases rd
    exact o (!k) H1 μ (Ext.refl _ _) rfl s
/-- .. as values, all but the last True or False -/
def fAnd (f g : Env → Mem → Res D) : Env → Mem → Res D := fun ρ M => (f ρ M).bind fun d M1 => match d with
  | .bl true => g ρ M1
  | .bl false => .ok (.bl false) M1
  | _ => .stuck
def fOr (f g : Env → Mem → Res D) : Env → Mem → Res D := fun ρ M => (f ρ M).bind fun d M1 => match d with
  | .bl true => .ok (.bl true) M1
  | .bl false => g ρ M1
  | _ => .stuck
def fNot (f : Env → Mem → Res D) : Env → Mem → Res D := fun ρ M => (f ρ M).bind fun d M1 => match d with
  | .bl k => .ok (.bl (!k)) M1
  | _ => .stuck
theorem c_one {op : BoolOp} (ha : PE X a (T X.K S W fa)) : PE X (.BoolOp op [a] pos) (T X.K S W fa) := pe_one ha
theorem c_and (ha : PE X a (T X.K S W fa)) (hb : PE X (.BoolOp .And (b :: rest) pos) (T X.K S W fb)) : PE X (.BoolOp .And (a :: b :: rest) pos) (T X.K S W (fAnd fa fb)) :=
  (pe_and ha hb).imp fun σ H Q h => Tg.bind (k := fun ρ d M1 => match d with
    | .bl true => fb ρ M1
    | .bl false => .ok (.bl false) M1
    | _ => .stuck) h fun ρ μ ν M d x H1 j e s rd o => by
    cases rd with
    | bl k =>
      refine ⟨k, rfl, ?_⟩
      cases k with
      | true => exact ⟨ρ, μ, ν, M, j, e, s, o⟩
      | false => exact Ok.flat o (.bl _) s
    | _ => exact o.elim
theorem c_or (ha : PE X a (T X.K S W fa)) (hb : PE X (.BoolOp .Or (b :: rest) pos) (T X.K S W fb)) : PE X (.BoolOp .Or (a :: b :: rest) pos) (T X.K S W (fOr fa fb)) :=
  (pe_or ha hb).imp fun σ H Q h => Tg.bind (k := fun ρ d M1 => match d with
    | .bl true => .ok (.bl true) M1
    | .bl false => fb ρ M1
    | _ => .stuck) h fun ρ μ ν M d x H1 j e s rd o => by
    cases rd with
    | bl k =>
      refine ⟨k, rfl, ?_⟩
      cases k with
      | true => exact Ok.flat o (.bl _) s
      | false => exact ⟨ρ, μ, ν, M, j, e, s, o⟩
    | _ => exact o.elim
theorem c_not (ha : PE X a (T X.K S W fa)) : PE X (.UnaryOp .Not a pos) (T X.K S W (fNot fa)) :=
  (pe_not ha).imp fun σ H Q h => Tg.bind (k := fun ρ (d : D) M1 => match d with
    | .bl k => Res.ok (D.bl (!k)) M1
    | _ => .stuck) h fun ρ μ ν M d x H1 j e s rd o => by
    cases rd with
    | bl k => exact ⟨k, rfl, Ok.flat o (.bl _) s⟩
    | _ => exact o.elim
def fIf (t : Env → Mem → Res Bool) (f g : Env → Mem → Res D) : Env → Mem → Res D := fun ρ M => (t ρ M).bind fun k M1 => if k = true then f ρ M1 else g ρ M1
theorem c_if {c : Expr} (hc : PT X c (TB X.K S W t)) (ha : PE X a (T X.K S W fa)) (hb : PE X b (T X.K S W fb)) : PE X (.IfExp c a b pos) (T X.K S W (fIf t fa fb)) :=
  (pe_ifExp hc ha hb).imp fun σ H Q h => Tg.bind (k := fun ρ k M1 => if k = true then fa ρ M1 else fb ρ M1) h fun ρ μ ν M k k' H1 j e s rd o => by
    cases rd
    cases k with
    | true => exact ⟨ρ, μ, ν, M, j, e, s, o⟩
    | false => exact ⟨ρ, μ, ν, M, j, e, s, o⟩
def gNeg : D → Mem → Res D := fun d M => match d with
  | .int i => .ok (.int (-i)) M
  | _ => .stuck
def fUn (g : D → Mem → Res D) (f : Env → Mem → Res D) : Env → Mem → Res D := fun ρ M => (f ρ M).bind g
theorem c_neg (ha : PE X a (T X.K S W fa)) : PE X (.UnaryOp .USub a pos) (T X.K S W (fUn gNeg fa)) :=
  (pe_un un_neg ha).imp fun σ H Q h => Tg.bind (k := fun _ => gNeg) h fun ρ μ ν M d x H1 j e s rd o => by
    cases rd with
    | int i => exact ⟨i, rfl, Ok.flat o (.int _) s⟩
    | _ => exact o.elim
/-! ### argument lists, displays -/
def fNil : Env → Mem → Res (List D) := fun _ M => .ok [] M
def fCons (f : Env → Mem → Res D) (g : Env → Mem → Res (List D)) : Env → Mem → Res (List D) := fun ρ M => (f ρ M).bind fun d M1 => (g ρ M1).bind fun ds M2 => .ok (d :: ds) M2
variable {es : List Expr} {fs : Env → Mem → Res (List D)}
theorem ca_nil : PA X [] (TL X.K S W fNil) := pa_nil.imp fun σ H Q h => by
  obtain ⟨ρ, μ, ν, M, j, e, s, o⟩ := h
  exact o [] H μ (Ext.refl _ _) .nil s
theorem ca_cons (ha : PE X e (T X.K S W f)) (hr : PA X es (TL X.K S W fs)) (hs : starEach (e :: es) X.env = (false, eval e X.env) :: starEach es X.env := by rfl) : PA X (e :: es) (TL X.K S W (fCons f fs)) :=
  (pa_cons ha hr hs).imp fun σ H Q h => Tg.bind (k := fun ρ d M1 => (fs ρ M1).bind fun ds M2 => .ok (d :: ds) M2) h fun ρ μ ν M d x H1 j e s rd o =>
    ⟨ρ, μ, ν, M, j, e, s, Ok.bind o fun ds M2 vs H2 μ2 x2 rs s2 o2 => o2 (x :: vs) H2 μ2 (Ext.refl _ _) (.cons (rd.ext x2) rs) s2⟩
def fTup (fs : Env → Mem → Res (List D)) : Env → Mem → Res D := fun ρ M => (fs ρ M).bind fun ds M1 => if ds.length ≤ line then .ok (.tup ds) M1 else .stuck
theorem c_tup {x1} (h : PA X es (TL X.K S W fs)) : PE X (.Tuple es x1 pos) (T X.K S W (fTup fs)) :=
  (pe_tup h).imp fun σ H Q h => Tg.bind (k := fun _ (ds : List D) M1 => if ds.length ≤ line then Res.ok (D.tup ds) M1 else .stuck) h fun ρ μ ν M ds vs H1 j e s rs o => by
    by_cases hl : ds.length ≤ line
    · rw [if_pos hl] at o
      exact ⟨line_le (by rw [← rs.length]; exact hl), fun p hp => Ok.newTup o rs s hp⟩
    · rw [if_neg hl] at o
      exact o.elim
/-- a reading that makes a new list -/
def OkN (K : PySem.W.Frag) (Tb : List (Addr × Str)) (W : WX) (σ : L2.St) (ν : List Addr) (H : Hp) (μ : List Addr) (Q : VK) : Res (List D) → Prop
  | .ok ds M' => ∀ p vs H' μ', Ext H μ H' μ' → SR K Tb H' μ' (p :: ν) M' → Rs K H' μ' (p :: ν) ds vs → H' p = some (.lst vs) → Nw H p → Q (.ref p) H'
  | .exn x M' => ∀ cls dd H' μ', Ext H μ H' μ' → RX K H' μ' x cls dd → SR K Tb H' μ' ν M' → W cls dd σ H'
  | .stuck => False
def TN (K : PySem.W.Frag) (S : Side) (W : WX) (f : Env → Mem → Res (List D)) : TE := fun σ H Q =>
  ∃ (ρ : Env) (μ ν : List Addr) (M : Mem), S.J H μ ν σ ∧ REnv K H μ ν ρ σ ∧ SR K S.Tb H μ ν M ∧ OkN K S.Tb W σ ν H μ Q (f ρ M)
theorem OkN.ext {K Tb W σ ν H μ H' μ'} {Q : VK} {r : Res (List D)} (h : OkN K Tb W σ ν H μ Q r) (e : Ext H μ H' μ') : OkN K Tb W σ ν H' μ' Q r := by
  cases r with
  | ok a M' => exact fun p vs H2 μ2 e2 s r h1 h2 => h p vs H2 μ2 (e.trans e2) s r h1 (e.som _ h2)
  | exn x M' => exact fun cls dd H2 μ2 e2 => h cls dd H2 μ2 (e.trans e2)
  | stuck => exact h
theorem OkN.bind {α β : Type} {K Tb W σ ν} {rel : Rel α β} {H μ} {Q : VK} {P : β → Hp → Prop} {r : Res α} {k : α → Mem → Res (List D)} (h : OkN K Tb W σ ν H μ Q (r.bind k))
    (hk : ∀ a M1 b H1 μ1, Ext H μ H1 μ1 → rel H1 μ1 ν a b → SR K Tb H1 μ1 ν M1 → OkN K Tb W σ ν H1 μ1 Q (k a M1) → P b H1) : Ok K Tb W σ ν rel H μ P r := by
  cases r with
  | ok a M' => exact fun b H1 μ1 e ra s => hk a M' b H1 μ1 e ra s (OkN.ext (r := k a M') h e)
  | exn x M' => exact h
  | stuck => exact h
theorem TN.bind {α β : Type} {K : PySem.W.Frag} {S : Side} {W : WX} {rel : Rel α β} {f : Env → Mem → Res α} {k : Env → α → Mem → Res (List D)} {σ : L2.St} {H : Hp} {Q : VK} {P : β → Hp → Prop}
    (h : TN K S W (fun ρ M => (f ρ M).bind (k ρ)) σ H Q)
    (hk : ∀ ρ μ ν M a b H1, S.J H1 μ ν σ → REnv K H1 μ ν ρ σ → SR K S.Tb H1 μ ν M → rel H1 μ ν a b → OkN K S.Tb W σ ν H1 μ Q (k ρ a M) → P b H1) : Tg K S W rel f σ H P := by
  obtain ⟨ρ, μ, ν, M, j, e, s, o⟩ := h
  exact ⟨ρ, μ, ν, M, j, e, s, OkN.bind o fun a M1 b H1 μ1 x r s1 o1 => hk ρ μ1 ν M1 a b H1 (S.st j x) (e.ext x) s1 r o1⟩
/-- a new list at p, where nothing stood -/
theorem OkN.new {K Tb W σ ν H μ} {Q : VK} {ds : List D} {vs : List V} {M : Mem} (o : OkN K Tb W σ ν H μ Q (.ok ds M)) (r : Rs K H μ ν ds vs) (s : SR K Tb H μ ν M) {p : Addr} (hp : H p = none) : Q (.ref p) (upd H p (.lst vs)) :=
  o p vs _ μ (ext_fresh hp (s.notin hp)) (s.aside hp) (r.aside (aside_fresh hp)) upd_same (.of hp)
/-- nobody will change it -/
def fLst (f : Env → Mem → Res (List D)) : Env → Mem → Res D := fun ρ M => (f ρ M).bind fun ds M1 => .ok (.lst ds) M1
/-- it is an object of the store -/
def fNew (f : Env → Mem → Res (List D)) : Env → Mem → Res D := fun ρ M => (f ρ M).bind fun ds M1 => .ok (.ref M1.length) (M1 ++ [.lst ds])
theorem free_res {K Tb H μ ν M} {p : Addr} (s : SR K Tb H μ ν M) (h : Nw H p) : p ∉ ν := fun z => (s.res p z).1 h
theorem c_lstN (h : PE X e (TN X.K S W fs)) : PE X e (T X.K S W (fLst fs)) := PE.imp h fun σ H Q h => by
  obtain ⟨ρ, μ, ν, M, j, e, s, o⟩ := h
  refine ⟨ρ, μ, ν, M, j, e, s, ?_⟩
  unfold fLst at o
  cases q : fs ρ M with
  | ok ds M1 =>
    rw [q] at o
    intro p vs H' μ' x s' r' h1 h2
    have hn : p ∉ ν := free_res s h2
    exact o (.ref p) H' μ' x (.lst ⟨h1, (s'.res p List.mem_cons_self).2, hn⟩ r'.release) s'.release
  | exn x M1 => rw [q] at o; exact o
  | stuck => rw [q] at o; exact o
theorem ext_store {H μ H' μ'} {p : Addr} (x : Ext H μ H' μ') (h : Nw H p) : Ext H μ H' (μ' ++ [p]) where
  ids := by
    obtain ⟨l, e⟩ := x.ids
    exact ⟨l ++ [p], by rw [e, List.append_assoc]⟩
  keep := fun a o e n t => by
    obtain ⟨h1, h2⟩ := x.keep a o e n t
    refine ⟨h1, fun z => ?_⟩
    rcases List.mem_append.mp z with z | z
    · exact h2 z
    · exact h.ne e t (List.mem_singleton.mp z)
  som := x.som
theorem c_newN (h : PE X e (TN X.K S W fs)) : PE X e (T X.K S W (fNew fs)) := PE.imp h fun σ H Q h => by
  obtain ⟨ρ, μ, ν, M, j, e, s, o⟩ := h
  refine ⟨ρ, μ, ν, M, j, e, s, ?_⟩
  unfold fNew at o
  cases q : fs ρ M with
  | ok ds M1 =>
    rw [q] at o
    intro p vs H' μ' x s' r' h1 h2
    have hn : p ∉ ν := free_res s h2
    refine o (.ref p) H' (μ' ++ [p]) (ext_store x h2) (.ref ?_) (s'.alloc h1 r' hn)
    rw [← s'.len, List.getElem?_append_right (Nat.le_refl _)]
    simp
  | exn x M1 => rw [q] at o; exact o
  | stuck => rw [q] at o; exact o
def fLim (fs : Env → Mem → Res (List D)) : Env → Mem → Res (List D) := fun ρ M => (fs ρ M).bind fun ds M1 => if ds.length ≤ line then .ok ds M1 else .stuck
theorem c_disp (h : PA X es (TL X.K S W fs)) : PE X (.List es pos) (TN X.K S W (fLim fs)) :=
  (pe_lst h).imp fun σ H Q h => TN.bind (k := fun _ (ds : List D) M1 => if ds.length ≤ line then Res.ok ds M1 else .stuck) h fun ρ μ ν M ds vs H1 j e s rs o => by
    by_cases hl : ds.length ≤ line
    · rw [if_pos hl] at o
      exact ⟨line_le (by rw [← rs.length]; exact hl), fun p hp => OkN.new o rs s hp⟩
    · rw [if_neg hl] at o
      exact o.elim
end
end SD

set_option Elab.async false
set_option linter.all false
set_option maxRecDepth 100000
set_option maxHeartbeats 4000000
namespace SD
open PySem PySem.Spec PyProof.Rows L2
section
variable {X : Cx} {S : Side} {W : WX} {a b c e : Expr} {fa fb fc f : Env → Mem → Res D} {pos p : Pos} {op : Operator} {es : List Expr} {fs : Env → Mem → Res (List D)}
/-! ### items -/
def gIx : D → D → Mem → Res D := fun d e M => match e with
  | .int i => match d with
    | .str z => if z.length ≤ line then match atI z.cps.toList i with
        | some c => .ok (.str ⟨#[c]⟩) M
        | none => .stuck
      else .stuck
    | d => match seqOf M d with
      | some ds => match atI ds i with
        | some x => .ok x M
        | none => .stuck
      | none => .stuck
  | _ => .stuck
theorem atI_R {K H μ ν} {ds : List D} {vs : List V} {i : Int} {d : D} (r : Rs K H μ ν ds vs) (h : atI ds i = some d) : ∃ v, atI vs i = some v ∧ R K H μ ν d v := by
  unfold atI at h ⊢
  rw [← r.length]
  cases q : ixN ds.length i with
  | none => rw [q] at h; cases h
  | some j =>
    rw [q] at h
    exact r.get (i := j) h
theorem ix_seq_out {K Tb H μ ν M W σ Q} {d : D} {x : V} {i : Int} (rd : R K H μ ν d x) (s : SR K Tb H μ ν M)
    (o : Ok K Tb W σ ν (rD K) H μ Q (match seqOf M d with
      | some ds => match atI ds i with
        | some x => .ok x M
        | none => .stuck
      | none => .stuck)) : rIx K x (.int i) H Q := by
  cases h : seqOf M d with
  | none => rw [h] at o; exact o.elim
  | some ds =>
    rw [h] at o
    simp only at o
    cases h2 : atI ds i with
    | none => rw [h2] at o; exact o.elim
    | some z =>
      rw [h2] at o
      obtain ⟨a, vs, rfl, h3, h4⟩ := seqOf_at rd s h
      obtain ⟨v, h5, h6⟩ := atI_R h4 h2
      rcases h3 with h3 | h3
      · exact .inl ⟨a, vs, i, v, rfl, rfl, h3, h5, Ok.flat o h6 s⟩
      · exact .inr (.inl ⟨a, vs, i, v, rfl, rfl, h3, h5, Ok.flat o h6 s⟩)
theorem IxR.imp {X : Cx} {r r' : R2} (h : IxR X r) (i : ∀ x y H Q, r' x y H Q → r x y H Q) : IxR X r' := fun va sl pins s σ H x y v u Q I rx ry q => h va sl pins s σ H x y v u Q I rx ry (i _ _ _ _ q)
theorem c_ix_op : IxR X (rC2 X.K S.Tb gIx) := IxR.imp ix_seq fun x y H Q h => by
  obtain ⟨W, σ, d, e, μ, ν, M, rd, re, s, o⟩ := h
  have rd0 := rd
  cases re with
  | int i =>
    cases rd with
    | str z =>
      have o : Ok X.K S.Tb W σ ν (rD X.K) H μ Q (if z.length ≤ line then match atI z.cps.toList i with
        | some c => .ok (.str ⟨#[c]⟩) M
        | none => .stuck
      else .stuck) := o
      by_cases hl : z.length ≤ line
      · rw [if_pos hl] at o
        cases h2 : atI z.cps.toList i with
        | none => rw [h2] at o; exact o.elim
        | some c =>
          rw [h2] at o
          exact .inr (.inr ⟨z, i, c, rfl, rfl, line_le hl, h2, Ok.flat o (.str _) s⟩)
      · rw [if_neg hl] at o
        exact o.elim
    | _ => exact ix_seq_out rd0 s o
  | _ => exact o.elim
theorem c_ix (ha : PE X a (T X.K S W fa)) (hb : PE X b (T X.K S W fb)) (hs : PlainIx b := by exact fun _ _ => rfl) : PE X (.Subscript a b pos) (T X.K S W (fBin gIx fa fb)) :=
  ⟨fun pins s σ H Q I h => (pe_ix c_ix_op ha hb hs).run pins s σ H Q I (bin_read h)⟩
/-! ### slices -/
abbrev rO : Rel (Option Int) (Option Int) := fun _ _ _ a b => a = b
def fNoPart : Env → Mem → Res (Option Int) := fun _ M => .ok none M
def fPart (f : Env → Mem → Res D) : Env → Mem → Res (Option Int) := fun ρ M => (f ρ M).bind fun d M1 => match d with
  | .int i => .ok (some i) M1
  | _ => .stuck
theorem _root_.L2.PO.imp {X : Cx} {e : Option Expr} {t t' : TO} (h : PO X e t) (i : ∀ σ H Q, t' σ H Q → t σ H Q) : PO X e t' := ⟨fun pins s σ H Q I q => h.run pins s σ H Q I (i _ _ _ q)⟩
theorem co_none : PO X none (Tg X.K S W rO fNoPart) := po_none.imp fun σ H Q h => by
  obtain ⟨ρ, μ, ν, M, j, e, s, o⟩ := h
  exact o none H μ (Ext.refl _ _) rfl s
theorem co_some (h : PE X e (T X.K S W f)) : PO X (some e) (Tg X.K S W rO (fPart f)) := (po_some h).imp fun σ H Q h =>
  Tg.bind (k := fun _ (d : D) M1 => match d with
    | .int i => Res.ok (some i) M1
    | _ => .stuck) h fun ρ μ ν M d x H1 j e s rd o => by
    cases rd with
    | int i => exact ⟨i, rfl, o (some i) H1 μ (Ext.refl _ _) rfl s⟩
    | _ => exact o.elim
def cutD (xs : List D) (lo hi : Option Int) : List D := (xs.drop (HT.sIx xs.length 0 lo)).take (HT.sIx xs.length xs.length hi - HT.sIx xs.length 0 lo)
theorem cut_R {K H μ ν} {ds : List D} {vs : List V} (r : Rs K H μ ν ds vs) (lo hi : Option Int) : Rs K H μ ν (cutD ds lo hi) (cutV vs lo hi) := by
  unfold cutD cutV
  rw [r.length]
  exact (r.drop _).take _
theorem cut_whole {xs : List D} {lo hi : Option Int} (h : HT.sIx xs.length 0 lo = 0 ∧ HT.sIx xs.length xs.length hi = xs.length) : cutD xs lo hi = xs := by
  unfold cutD
  rw [h.1, h.2]
  simp
def gSl (d : D) (lo hi : Option Int) (M : Mem) : Res D := match d with
  | .str z => if z.length ≤ line then .ok (.str (cutS z lo hi)) M else .stuck
  | .tup ds => .ok (.tup (cutD ds lo hi)) M
  | .scr ds => .ok (.lst (cutD ds lo hi)) M
  | d => match lstOf M d with
    | some ds => .ok (.lst (cutD ds lo hi)) M
    | none => .stuck
def fSl (f : Env → Mem → Res D) (l u : Env → Mem → Res (Option Int)) : Env → Mem → Res D := fun ρ M => (f ρ M).bind fun d M1 => (l ρ M1).bind fun lo M2 => (u ρ M2).bind fun hi M3 => gSl d lo hi M3
variable {lo hi : Option Expr} {l u : Env → Mem → Res (Option Int)} {p2 : Pos}
theorem sl_lst_out {K Tb H μ ν M W σ Q} {d : D} {x : V} {lo hi : Option Int} (rd : R K H μ ν d x) (s : SR K Tb H μ ν M)
    (o : Ok K Tb W σ ν (rD K) H μ Q (match lstOf M d with
      | some ds => .ok (.lst (cutD ds lo hi)) M
      | none => .stuck)) : rSlL K x lo hi H Q := by
  cases h : lstOf M d with
  | none => rw [h] at o; exact o.elim
  | some ds =>
    rw [h] at o
    obtain ⟨a, vs, rfl, h1, h2⟩ := lstOf_at rd s h
    exact ⟨a, vs, rfl, .inl (.inl h1), fun p hp => Ok.newLst o (cut_R h2 lo hi) s hp⟩
theorem SlR.imp {X : Cx} {r r' : V → Option Int → Option Int → Hp → VK → Prop} (h : SlR X r) (i : ∀ x lo hi H Q, r' x lo hi H Q → r x lo hi H Q) : SlR X r' :=
  fun pins s σ H x v vl vu lo hi sl Q I rx hs pl pu q => h pins s σ H x v vl vu lo hi sl Q I rx hs pl pu (i _ _ _ _ _ q)
def rSlC (K : PySem.W.Frag) (Tb : List (Addr × Str)) : V → Option Int → Option Int → Hp → VK → Prop := fun x lo hi H Q =>
  ∃ (W : WX) (σ : L2.St) (d : D) (μ ν : List Addr) (M : Mem), R K H μ ν d x ∧ SR K Tb H μ ν M ∧ Ok K Tb W σ ν (rD K) H μ Q (gSl d lo hi M)
theorem c_sl_op : SlR X (rSlC X.K S.Tb) := SlR.imp (SlR.or sl_str (SlR.or sl_tupA sl_list)) fun x lo hi H Q h => by
  obtain ⟨W, σ, d, μ, ν, M, rd, s, o⟩ := h
  have rd0 := rd
  cases rd with
  | str z =>
    have o : Ok X.K S.Tb W σ ν (rD X.K) H μ Q (if z.length ≤ line then .ok (.str (cutS z lo hi)) M else .stuck) := o
    by_cases hl : z.length ≤ line
    · rw [if_pos hl] at o
      exact .inl ⟨z, rfl, line_le hl, Ok.flat o (.str _) s⟩
    · rw [if_neg hl] at o
      exact o.elim
  | tup h1 h2 =>
    rename_i a vs ds
    have o : Ok X.K S.Tb W σ ν (rD X.K) H μ Q (.ok (.tup (cutD ds lo hi)) M) := o
    refine .inr (.inl ⟨a, vs, rfl, h1.seq, fun z => ?_, fun z p hp => ?_⟩)
    · rw [← h2.length] at z
      rw [cut_whole z] at o
      exact Ok.flat o (.tup h1 h2) s
    · exact Ok.newTup o (cut_R h2 lo hi) s hp
  | scr h1 h2 =>
    rename_i a vs ds
    have o : Ok X.K S.Tb W σ ν (rD X.K) H μ Q (.ok (.lst (cutD ds lo hi)) M) := o
    exact .inr (.inr ⟨a, vs, rfl, h1.seq, fun p hp => Ok.newLst o (cut_R h2 lo hi) s hp⟩)
  | _ => exact .inr (.inr (sl_lst_out rd0 s o))
theorem c_sl (he : PE X e (T X.K S W f)) (hl : PO X lo (Tg X.K S W rO l)) (hu : PO X hi (Tg X.K S W rO u)) : PE X (.Subscript e (.Slice lo hi none p2) pos) (T X.K S W (fSl f l u)) :=
  (pe_slice (c_sl_op (S := S)) he hl hu).imp fun σ H Q h => Tg.bind (k := fun ρ d M1 => (l ρ M1).bind fun lo M2 => (u ρ M2).bind fun hi M3 => gSl d lo hi M3) h fun ρ μ ν M d x H1 j e s rd o =>
    ⟨ρ, μ, ν, M, j, e, s, Ok.bind o fun lo M2 lo' H2 μ2 x2 el s2 o2 => ⟨ρ, μ2, ν, M2, S.st j x2, e.ext x2, s2, Ok.bind o2 fun hi M3 hi' H3 μ3 x3 eh s3 o3 => by
      cases el
      cases eh
      exact ⟨W, σ, d, μ3, ν, M3, rd.ext (x2.trans x3), s3, o3⟩⟩⟩
/-! ### calls of built-ins -/
def rCC (K : PySem.W.Frag) (Tb : List (Addr × Str)) (g : List D → Mem → Res D) : List V → Hp → VK → Prop := fun vs H Q =>
  ∃ (W : WX) (σ : L2.St) (ds : List D) (μ ν : List Addr) (M : Mem), Rs K H μ ν ds vs ∧ SR K Tb H μ ν M ∧ Ok K Tb W σ ν (rD K) H μ Q (g ds M)
def fCall (g : List D → Mem → Res D) (fs : Env → Mem → Res (List D)) : Env → Mem → Res D := fun ρ M => (fs ρ M).bind g
theorem call_read {g : List D → Mem → Res D} {σ : L2.St} {H : Hp} {Q : VK} (h : T X.K S W (fCall g fs) σ H Q) : tCB (rCC X.K S.Tb g) (TL X.K S W fs) σ H Q :=
  Tg.bind (k := fun _ => g) h fun ρ μ ν M ds vs H1 j e s rs o => ⟨W, σ, ds, μ, ν, M, rs, s, o⟩
theorem CallR.imp {f : Value} {r r' : List V → Hp → VK → Prop} (h : CallR X f r) (i : ∀ xs H Q, r' xs H Q → r xs H Q) : CallR X f r' := fun pins s σ H xs us Q I r q => h pins s σ H xs us Q I r (i _ _ _ q)
variable {x : Str} {id Ty : String}
theorem c_callB {g : List D → Mem → Res D} (hc : CallR X (.builtin id) (rCC X.K S.Tb g)) (hg : Gl X x) (hm : X.mg x = none) (hv : bootBuiltins x = some (.builtin id)) (ha : PA X (e :: es) (TL X.K S W fs)) (hn : x ≠ "__name__" := by decide) (hdb : (x == ("__debug__" : Str)) = false := by decide)
    (he : starEach (e :: es) X.env = (false, eval e X.env) :: starEach es X.env := by rfl) (hpl : (backTo pos (starEach es X.env)).any (·.1) = false := by rfl) : PE X (.Call (.Name x p) (e :: es) [] pos) (T X.K S W (fCall g fs)) :=
  (pe_callB hc hg hm hv ha hn hdb he hpl).imp fun σ H Q h => call_read h
theorem c_callT {g : List D → Mem → Res D} (hc : CallR X (.type Ty) (rCC X.K S.Tb g)) (hg : Gl X x) (hm : X.mg x = none) (hv : bootBuiltins x = some (.type Ty)) (ha : PA X (e :: es) (TL X.K S W fs)) (hn : x ≠ "__name__" := by decide) (hdb : (x == ("__debug__" : Str)) = false := by decide)
    (he : starEach (e :: es) X.env = (false, eval e X.env) :: starEach es X.env := by rfl) (hpl : (backTo pos (starEach es X.env)).any (·.1) = false := by rfl) : PE X (.Call (.Name x p) (e :: es) [] pos) (T X.K S W (fCall g fs)) :=
  (pe_callTy hc hg hm hv ha hn hdb he hpl).imp fun σ H Q h => call_read h
/-- one argument -/
theorem one_R {K H μ ν} {d : D} {vs : List V} (r : Rs K H μ ν [d] vs) : ∃ v, vs = [v] ∧ R K H μ ν d v := by
  cases r with
  | cons h t => cases t; exact ⟨_, rfl, h⟩
theorem two_R {K H μ ν} {d e : D} {vs : List V} (r : Rs K H μ ν [d, e] vs) : ∃ v w, vs = [v, w] ∧ R K H μ ν d v ∧ R K H μ ν e w := by
  cases r with
  | cons h t =>
    obtain ⟨w, rfl, h2⟩ := one_R t
    exact ⟨_, w, rfl, h, h2⟩
def gLen : List D → Mem → Res D := fun ds M => match ds with
  | [.str z] => if z.length ≤ line then .ok (.int z.length) M else .stuck
  | [d] => match seqOf M d with
    | some xs => .ok (.int xs.length) M
    | none => .stuck
  | _ => .stuck
theorem len_out {K Tb H μ ν M W σ Q} {d : D} {x : V} (rd : R K H μ ν d x) (s : SR K Tb H μ ν M)
    (o : Ok K Tb W σ ν (rD K) H μ Q (match seqOf M d with
      | some xs => .ok (.int xs.length) M
      | none => .stuck)) : ∃ y n, [x] = [y] ∧ LenV K y H n ∧ Q (.int n) H := by
  cases h : seqOf M d with
  | none => rw [h] at o; exact o.elim
  | some ds =>
    rw [h] at o
    obtain ⟨a, vs, rfl, h3, h4⟩ := seqOf_at rd s h
    refine ⟨_, ds.length, rfl, ?_, Ok.flat o (.int _) s⟩
    rcases h3 with h3 | h3
    · exact .inl ⟨vs, h3, h4.length⟩
    · exact .inr ⟨vs, h3, h4.length⟩
theorem cc_len : CallR X (.builtin "len") (rCC X.K S.Tb gLen) := CallR.imp call_len fun vs H Q h => by
  obtain ⟨W, σ, ds, μ, ν, M, rs, s, o⟩ := h
  unfold gLen at o
  split at o
  · rename_i z
    obtain ⟨v, rfl, rd⟩ := one_R rs
    cases rd
    by_cases hl : z.length ≤ line
    · rw [if_pos hl] at o
      exact ⟨_, z.length, rfl, ⟨line_le hl, rfl⟩, Ok.flat o (.int _) s⟩
    · rw [if_neg hl] at o
      exact o.elim
  · obtain ⟨v, rfl, rd⟩ := one_R rs
    exact len_out rd s o
  · exact o.elim
def gInt : List D → Mem → Res D := fun ds M => match ds with
  | [.int i] => .ok (.int i) M
  | [.bl k] => .ok (.int (if k then 1 else 0)) M
  | _ => .stuck
theorem cc_int : CallR X (.type "int") (rCC X.K S.Tb gInt) := CallR.imp call_int1 fun vs H Q h => by
  obtain ⟨W, σ, ds, μ, ν, M, rs, s, o⟩ := h
  unfold gInt at o
  split at o
  · obtain ⟨v, rfl, rd⟩ := one_R rs
    cases rd
    exact .inl ⟨_, rfl, Ok.flat o (.int _) s⟩
  · obtain ⟨v, rfl, rd⟩ := one_R rs
    cases rd
    exact .inr ⟨_, rfl, Ok.flat o (.int _) s⟩
  · exact o.elim
def gMin : List D → Mem → Res D := fun ds M => match ds with
  | [.int i, .int j] => .ok (.int (if j < i then j else i)) M
  | _ => .stuck
def gMax : List D → Mem → Res D := fun ds M => match ds with
  | [.int i, .int j] => .ok (.int (if j > i then j else i)) M
  | _ => .stuck
def gAbs : List D → Mem → Res D := fun ds M => match ds with
  | [.int i] => .ok (.int (if i < 0 then -i else i)) M
  | _ => .stuck
theorem cc_min (hc : X.calm = true) : CallR X (.builtin "min") (rCC X.K S.Tb gMin) := CallR.imp (call_min2 hc) fun vs H Q h => by
  obtain ⟨W, σ, ds, μ, ν, M, rs, s, o⟩ := h
  unfold gMin at o
  split at o
  · obtain ⟨v, w, rfl, r1, r2⟩ := two_R rs
    cases r1
    cases r2
    exact ⟨_, _, rfl, Ok.flat o (.int _) s⟩
  · exact o.elim
theorem cc_max (hc : X.calm = true) : CallR X (.builtin "max") (rCC X.K S.Tb gMax) := CallR.imp (call_max2 hc) fun vs H Q h => by
  obtain ⟨W, σ, ds, μ, ν, M, rs, s, o⟩ := h
  unfold gMax at o
  split at o
  · obtain ⟨v, w, rfl, r1, r2⟩ := two_R rs
    cases r1
    cases r2
    exact ⟨_, _, rfl, Ok.flat o (.int _) s⟩
  · exact o.elim
theorem cc_abs : CallR X (.builtin "abs") (rCC X.K S.Tb gAbs) := CallR.imp call_abs fun vs H Q h => by
  obtain ⟨W, σ, ds, μ, ν, M, rs, s, o⟩ := h
  unfold gAbs at o
  split at o
  · obtain ⟨v, rfl, r1⟩ := one_R rs
    cases r1
    exact ⟨_, rfl, Ok.flat o (.int _) s⟩
  · exact o.elim
/-- tuple(x) of a list or a tuple -/
def gTuple : List D → Mem → Res D := fun ds M => match ds with
  | [d] => match seqOf M d with
    | some xs => .ok (.tup xs) M
    | none => .stuck
  | _ => .stuck
theorem seqOf_cases {K Tb H μ ν M} {d : D} {x : V} {ds : List D} (r : R K H μ ν d x) (s : SR K Tb H μ ν M) (h : seqOf M d = some ds) :
    ∃ a vs, x = .ref a ∧ Rs K H μ ν ds vs ∧ (SqL K H a vs ∨ (AtT K H μ ν a vs ∧ d = .tup ds)) := by
  have r0 := r
  cases r with
  | tup h1 h2 => cases h; exact ⟨_, _, rfl, h2, .inr ⟨h1, rfl⟩⟩
  | scr h1 h2 => cases h; exact ⟨_, _, rfl, h2, .inl h1.seq⟩
  | _ =>
    obtain ⟨a, vs, e, h1, h2⟩ := lstOf_at r0 s h
    exact ⟨a, vs, e, h2, .inl (.inl (.inl h1))⟩
theorem cc_tuple : CallR X (.type "tuple") (rCC X.K S.Tb gTuple) := CallR.imp call_tuple_of fun vs H Q h => by
  obtain ⟨W, σ, ds, μ, ν, M, rs, s, o⟩ := h
  match ds, rs with
  | [], _ => exact o.elim
  | [d], rs =>
    obtain ⟨v, rfl, rd⟩ := one_R rs
    have o : Ok X.K S.Tb W σ ν (rD X.K) H μ Q (match seqOf M d with
      | some xs => .ok (.tup xs) M
      | none => .stuck) := o
    cases h : seqOf M d with
    | none => rw [h] at o; exact o.elim
    | some xs =>
      rw [h] at o
      obtain ⟨a, ws, rfl, h1, h2⟩ := seqOf_cases rd s h
      rcases h2 with h2 | ⟨h2, _⟩
      · exact ⟨a, ws, rfl, .inl ⟨h2, fun p hp => Ok.newTup o h1 s hp⟩⟩
      · exact ⟨a, ws, rfl, .inr ⟨h2.seq, Ok.flat o (.tup h2 h1) s⟩⟩
  | _ :: _ :: _, _ => exact o.elim
/-- calls that make a new list -/
def rCN (K : PySem.W.Frag) (Tb : List (Addr × Str)) (g : List D → Mem → Res (List D)) : List V → Hp → VK → Prop := fun vs H Q =>
  ∃ (W : WX) (σ : L2.St) (ds : List D) (μ ν : List Addr) (M : Mem), Rs K H μ ν ds vs ∧ SR K Tb H μ ν M ∧ OkN K Tb W σ ν H μ Q (g ds M)
def fCallN (g : List D → Mem → Res (List D)) (fs : Env → Mem → Res (List D)) : Env → Mem → Res (List D) := fun ρ M => (fs ρ M).bind g
theorem callN_read {g : List D → Mem → Res (List D)} {σ : L2.St} {H : Hp} {Q : VK} (h : TN X.K S W (fCallN g fs) σ H Q) : tCB (rCN X.K S.Tb g) (TL X.K S W fs) σ H Q :=
  TN.bind (k := fun _ => g) h fun ρ μ ν M ds vs H1 j e s rs o => ⟨W, σ, ds, μ, ν, M, rs, s, o⟩
theorem c_callBN {g : List D → Mem → Res (List D)} (hc : CallR X (.builtin id) (rCN X.K S.Tb g)) (hg : Gl X x) (hm : X.mg x = none) (hv : bootBuiltins x = some (.builtin id)) (ha : PA X (e :: es) (TL X.K S W fs)) (hn : x ≠ "__name__" := by decide) (hdb : (x == ("__debug__" : Str)) = false := by decide)
    (he : starEach (e :: es) X.env = (false, eval e X.env) :: starEach es X.env := by rfl) (hpl : (backTo pos (starEach es X.env)).any (·.1) = false := by rfl) : PE X (.Call (.Name x p) (e :: es) [] pos) (TN X.K S W (fCallN g fs)) :=
  (pe_callB hc hg hm hv ha hn hdb he hpl).imp fun σ H Q h => callN_read h
theorem c_callTN {g : List D → Mem → Res (List D)} (hc : CallR X (.type Ty) (rCN X.K S.Tb g)) (hg : Gl X x) (hm : X.mg x = none) (hv : bootBuiltins x = some (.type Ty)) (ha : PA X (e :: es) (TL X.K S W fs)) (hn : x ≠ "__name__" := by decide) (hdb : (x == ("__debug__" : Str)) = false := by decide)
    (he : starEach (e :: es) X.env = (false, eval e X.env) :: starEach es X.env := by rfl) (hpl : (backTo pos (starEach es X.env)).any (·.1) = false := by rfl) : PE X (.Call (.Name x p) (e :: es) [] pos) (TN X.K S W (fCallN g fs)) :=
  (pe_callTy hc hg hm hv ha hn hdb he hpl).imp fun σ H Q h => callN_read h
def gList : List D → Mem → Res (List D) := fun ds M => match ds with
  | [d] => match seqOf M d with
    | some xs => .ok xs M
    | none => .stuck
  | _ => .stuck
theorem cc_list : CallR X (.type "list") (rCN X.K S.Tb gList) := CallR.imp call_list_of fun vs H Q h => by
  obtain ⟨W, σ, ds, μ, ν, M, rs, s, o⟩ := h
  match ds, rs with
  | [], _ => exact o.elim
  | [d], rs =>
    obtain ⟨v, rfl, rd⟩ := one_R rs
    have o : OkN X.K S.Tb W σ ν H μ Q (match seqOf M d with
      | some xs => .ok xs M
      | none => .stuck) := o
    cases h : seqOf M d with
    | none => rw [h] at o; exact o.elim
    | some xs =>
      rw [h] at o
      obtain ⟨a, ws, rfl, h3, h4⟩ := seqOf_at rd s h
      exact ⟨a, ws, rfl, h3, fun p hp => OkN.new o h4 s hp⟩
  | _ :: _ :: _, _ => exact o.elim
/-- list(range(..)), tuple(range(..)) -/
def rgD (a b : Int) : List D := (List.range (b - a).toNat).map fun i => D.int (a + (i : Nat))
theorem rs_rg {K H μ ν} (a b : Int) : Rs K H μ ν (rgD a b) (rgV a b) := by
  unfold rgD rgV
  generalize (List.range (b - a).toNat) = l
  induction l with
  | nil => exact .nil
  | cons i l ih => exact .cons (.int _) ih
def okRg (a b : Int) : Bool := decide (0 ≤ a ∧ a ≤ 16777216 ∧ 0 ≤ b ∧ b ≤ 16777216)
theorem okRg_ok {a b : Int} (h : okRg a b = true) : RgOk a b := by
  have h := of_decide_eq_true h
  exact RgOk.of_le h.1 h.2.2.2 h.2.1 h.2.2.1
/-- the ends of a range -/
def fRg1 (f : Env → Mem → Res D) : Env → Mem → Res (Int × Int) := fun ρ M => (f ρ M).bind fun d M1 => match d with
  | .int n => if okRg 0 n = true then .ok (0, n) M1 else .stuck
  | _ => .stuck
def fRg2 (f g : Env → Mem → Res D) : Env → Mem → Res (Int × Int) := fun ρ M => (f ρ M).bind fun d M1 => (g ρ M1).bind fun e M2 => match d, e with
  | .int m, .int n => if okRg m n = true then .ok (m, n) M2 else .stuck
  | _, _ => .stuck
/-- a range's reading -/
def TR (K : PySem.W.Frag) (S : Side) (W : WX) (r : Env → Mem → Res (Int × Int)) : L2.St → Hp → (Int → Int → Hp → Prop) → Prop := fun σ H Q =>
  Tg K S W (fun _ _ _ (a b : Int × Int) => a = b ∧ okRg a.1 a.2 = true) r σ H fun q H' => Q q.1 q.2 H'
theorem PRg.imp {X : Cx} {e : Expr} {t t' : L2.St → Hp → (Int → Int → Hp → Prop) → Prop} (h : PRg X e t) (i : ∀ σ H Q, t' σ H Q → t σ H Q) : PRg X e t' := fun pins s σ H Q I q => h pins s σ H Q I (i _ _ _ q)
theorem cr_1 {q : Pos} (hg : Gl X "range") (hm : X.mg "range" = none) (ha : PE X a (T X.K S W fa)) (na : starEach [a] X.env = (false, eval a X.env) :: starEach [] X.env := by rfl) : PRg X (.Call (.Name "range" q) [a] [] pos) (TR X.K S W (fRg1 fa)) :=
  PRg.imp (prg_1 hg hm ha na) fun σ H Q h => Tg.bind (k := fun _ (d : D) M1 => match d with
    | .int n => if okRg 0 n = true then Res.ok ((0, n) : Int × Int) M1 else .stuck
    | _ => .stuck) h fun ρ μ ν M d x H1 j e s rd o => by
    cases rd with
    | int n =>
      by_cases hk : okRg 0 n = true
      · simp only [hk, if_true] at o
        exact ⟨n, rfl, o (0, n) H1 μ (Ext.refl _ _) ⟨rfl, hk⟩ s⟩
      · simp only [hk, if_false] at o
        exact o.elim
    | _ => exact o.elim
theorem cr_2 {q : Pos} (hg : Gl X "range") (hm : X.mg "range" = none) (ha : PE X a (T X.K S W fa)) (hb : PE X b (T X.K S W fb)) (na : starEach [a, b] X.env = (false, eval a X.env) :: starEach [b] X.env := by rfl)
    (nb : starEach [b] X.env = (false, eval b X.env) :: starEach [] X.env := by rfl) (hp : (backTo pos (starEach [b] X.env)).any (·.1) = false := by rfl) : PRg X (.Call (.Name "range" q) [a, b] [] pos) (TR X.K S W (fRg2 fa fb)) :=
  PRg.imp (prg_2 hg hm ha hb na nb hp) fun σ H Q h => Tg.bind (k := fun ρ (d : D) M1 => (fb ρ M1).bind fun e M2 => match d, e with
    | .int m, .int n => if okRg m n = true then Res.ok ((m, n) : Int × Int) M2 else .stuck
    | _, _ => .stuck) h fun ρ μ ν M d x H1 j e s rd o => ⟨ρ, μ, ν, M, j, e, s, Ok.bind o fun d2 M2 y H2 μ2 x2 ry s2 o2 => by
      cases rd with
      | int m =>
        cases ry with
        | int n =>
          by_cases hk : okRg m n = true
          · simp only [hk, if_true] at o2
            exact ⟨m, n, rfl, rfl, o2 (m, n) H2 μ2 (Ext.refl _ _) ⟨rfl, hk⟩ s2⟩
          · simp only [hk, if_false] at o2
            exact o2.elim
        | _ => exact o2.elim
      | _ => exact o2.elim⟩
variable {r : Env → Mem → Res (Int × Int)}
def fListRg (r : Env → Mem → Res (Int × Int)) : Env → Mem → Res (List D) := fun ρ M => (r ρ M).bind fun q M1 => .ok (rgD q.1 q.2) M1
def fTupRg (r : Env → Mem → Res (Int × Int)) : Env → Mem → Res D := fun ρ M => (r ρ M).bind fun q M1 => .ok (.tup (rgD q.1 q.2)) M1
theorem c_listRg {q : Pos} (hc : X.calm = true) (hg : Gl X "list") (hm : X.mg "list" = none) (he : PRg X e (TR X.K S W r)) (na : starEach [e] X.env = (false, eval e X.env) :: starEach [] X.env := by rfl) : PE X (.Call (.Name "list" q) [e] [] pos) (TN X.K S W (fListRg r)) :=
  (pe_listRg hc hg hm he na).imp fun σ H Q h => TN.bind (k := fun _ (q : Int × Int) M1 => Res.ok (rgD q.1 q.2) M1) h fun ρ μ ν M q q' H1 j e s rq o => by
    obtain ⟨rfl, hk⟩ := rq
    exact ⟨okRg_ok hk, fun p hp => OkN.new o (rs_rg _ _) s hp⟩
theorem c_tupRg {q : Pos} (hc : X.calm = true) (hg : Gl X "tuple") (hm : X.mg "tuple" = none) (he : PRg X e (TR X.K S W r)) (na : starEach [e] X.env = (false, eval e X.env) :: starEach [] X.env := by rfl) : PE X (.Call (.Name "tuple" q) [e] [] pos) (T X.K S W (fTupRg r)) :=
  (pe_tupRg hc hg hm he na).imp fun σ H Q h => Tg.bind (k := fun _ (q : Int × Int) M1 => Res.ok (D.tup (rgD q.1 q.2)) M1) h fun ρ μ ν M q q' H1 j e s rq o => by
    obtain ⟨rfl, hk⟩ := rq
    exact ⟨okRg_ok hk, fun p hp => Ok.newTup o (rs_rg _ _) s hp⟩
end
end SD

set_option Elab.async false
set_option linter.all false
set_option maxRecDepth 100000
set_option maxHeartbeats 4000000
namespace SD
open PySem PySem.Spec PyProof.Rows L2
/-! ### targets -/
def Chg (ix : List Nat) (σ σ' : L2.St) : Prop := σ'.length = σ.length ∧ ∀ j, j ∉ ix → σ'[j]? = σ[j]?
theorem Chg.refl {ix : List Nat} {σ : L2.St} : Chg ix σ σ := ⟨rfl, fun _ _ => rfl⟩
theorem Chg.trans {ix iy : List Nat} {σ σ1 σ2 : L2.St} (a : Chg ix σ σ1) (b : Chg iy σ1 σ2) : Chg (ix ++ iy) σ σ2 :=
  ⟨b.1.trans a.1, fun j h => (b.2 j fun z => h (List.mem_append_right _ z)).trans (a.2 j fun z => h (List.mem_append_left _ z))⟩
def GTc (K : PySem.W.Frag) (Tb : List (Addr × Str)) (asg : D → Env → Option Env) (ix : List Nat) : TG := fun v σ H Q =>
  ∃ (d : D) (ρ : Env) (μ ν : List Addr) (M : Mem) (ρ' : Env), R K H μ ν d v ∧ REnv K H μ ν ρ σ ∧ SR K Tb H μ ν M ∧ asg d ρ = some ρ' ∧ ∀ σ', REnv K H μ ν ρ' σ' → Chg ix σ σ' → Q σ' H
def GLc (K : PySem.W.Frag) (Tb : List (Addr × Str)) (asg : List D → Env → Option Env) (ix : List Nat) : TGs := fun vs σ H Q =>
  ∃ (ds : List D) (ρ : Env) (μ ν : List Addr) (M : Mem) (ρ' : Env), Rs K H μ ν ds vs ∧ REnv K H μ ν ρ σ ∧ SR K Tb H μ ν M ∧ asg ds ρ = some ρ' ∧ ∀ σ', REnv K H μ ν ρ' σ' → Chg ix σ σ' → Q σ' H
def aName (i : Nat) : D → Env → Option Env := fun d ρ => some (ρ.set i (some d))
def aNil : List D → Env → Option Env := fun ds ρ => match ds with
  | [] => some ρ
  | _ => none
def aCons (f : D → Env → Option Env) (g : List D → Env → Option Env) : List D → Env → Option Env := fun ds ρ => match ds with
  | d :: ds => match f d ρ with
    | some ρ1 => g ds ρ1
    | none => none
  | [] => none
def aTup (n : Nat) (g : List D → Env → Option Env) : D → Env → Option Env := fun d ρ => match d with
  | .tup ds => if ds.length = n then g ds ρ else none
  | _ => none
section
variable {X : Cx} {S : Side} {W : WX} {e : Expr} {es : List Expr} {pos : Pos} {Tb : List (Addr × Str)}
theorem _root_.L2.PG.imp {X : Cx} {e : Expr} {t t' : TG} (h : PG X e t) (i : ∀ v σ H Q, t' v σ H Q → t v σ H Q) : PG X e t' := ⟨fun pins s σ H v u Q I r q => h.run pins s σ H v u Q I r (i _ _ _ _ q)⟩
theorem _root_.L2.PGs.imp {X : Cx} {e : List Expr} {t t' : TGs} (h : PGs X e t) (i : ∀ v σ H Q, t' v σ H Q → t v σ H Q) : PGs X e t' := ⟨fun pins s σ H v u Q I r q => h.run pins s σ H v u Q I r (i _ _ _ _ q)⟩
theorem set_chg {σ : L2.St} {i : Nat} {v : Option V} : Chg [i] σ (σ.set i v) := ⟨by simp, fun j h => List.getElem?_set_ne (fun z => h (by simp [z]))⟩
theorem cg_name {i : Nat} {x : Str} (hN : X.N.Nodup) (hi : X.N[i]? = some x) (hx : Loc X.env.scope x) (hf : X.fn x = true ∨ X.env.scope.names.lookup x = some .local := by first | exact .inl rfl | exact .inr rfl | assumption) :
    PG X (.Name x pos) (GTc X.K Tb (aName i) [i]) := (pg_name hN hi hx hf).imp fun v σ H Q h => by
  obtain ⟨d, ρ, μ, ν, M, ρ', rd, e, s, ha, k⟩ := h
  cases ha
  exact k _ (e.set rd i) set_chg
theorem cg_nil : PGs X [] (GLc X.K Tb aNil []) := pgs_nil.imp fun v σ H Q h => by
  obtain ⟨d, ρ, μ, ν, M, ρ', rd, e, s, ha, k⟩ := h
  cases rd with
  | nil => cases ha; exact ⟨rfl, k _ e .refl⟩
  | cons _ _ => cases ha
theorem cg_cons {f : D → Env → Option Env} {g : List D → Env → Option Env} {ix iy : List Nat} (h1 : PG X e (GTc X.K Tb f ix)) (h2 : PGs X es (GLc X.K Tb g iy))
    (hs : List.map (fun x => x.snd) (assignEach (e :: es) X.env) = assign e X.env :: List.map (fun x => x.snd) (assignEach es X.env) := by rfl) : PGs X (e :: es) (GLc X.K Tb (aCons f g) (ix ++ iy)) :=
  (pgs_cons h1 h2 hs).imp fun v σ H Q h => by
    obtain ⟨d, ρ, μ, ν, M, ρ', rd, e, s, ha, k⟩ := h
    cases rd with
    | nil => cases ha
    | cons r t =>
      rename_i d0 ds v0 vs
      unfold aCons at ha
      cases q : f d0 ρ with
      | none => simp only [q] at ha; cases ha
      | some ρ1 =>
        simp only [q] at ha
        exact ⟨v0, vs, rfl, d0, ρ, μ, ν, M, ρ1, r, e, s, q, fun σ1 e1 c1 => ⟨ds, ρ1, μ, ν, M, ρ', t, e1, s, ha, fun σ2 e2 c2 => k σ2 e2 (c1.trans c2)⟩⟩
theorem cg_tup {g : List D → Env → Option Env} {ix : List Nat} {k n : Nat} (hc : X.calm = true) (h : PGs X es (GLc X.K Tb g ix))
    (hn : (assignEach es X.env).length = n := by rfl) (hst : (assignEach es X.env).findIdx? (·.1) = none := by rfl) : PG X (.Tuple es k pos) (GTc X.K Tb (aTup n g) ix) := by
  refine L2.PG.imp (t := gTup X.K n (GLc X.K Tb g ix)) ?_ fun v σ H Q h => ?_
  · exact pg_tup hc h hn hst
  · obtain ⟨d, ρ, μ, ν, M, ρ', rd, e, s, ha, k⟩ := h
    cases rd with
    | tup h1 h2 =>
      rename_i a vs ds
      have ha : (if ds.length = n then g ds ρ else none) = some ρ' := ha
      by_cases hl : ds.length = n
      · rw [if_pos hl] at ha
        exact ⟨a, vs, rfl, h1.seq, h2.length ▸ hl, ds, ρ, μ, ν, M, ρ', h2, e, s, ha, k⟩
      · rw [if_neg hl] at ha
        cases ha
    | _ => cases ha
end
/-! ### what is walked -/
inductive Src where
  | fix (ds : List D)
  | sto (n : Nat)
def Src.get (s : Src) (M : Mem) : List D := match s with
  | .fix ds => ds
  | .sto n => match M[n]? with
    | some (.lst ds) => ds
    | none => []
structure ItOk (K : PySem.W.Frag) (Tb : List (Addr × Str)) (J : It) (src : Src) (H : Hp) (μ ν : List Addr) : Prop where
  ex : ∃ P : Hp → List Addr → List Addr → Prop, P H μ ν ∧ (∀ {H μ ν H' μ'}, P H μ ν → Ext H μ H' μ' → P H' μ' ν) ∧ (∀ {H μ ν H' ν'}, P H μ ν → Aside H H' μ ν ν' → P H' μ ν') ∧
    (∀ {H μ ν} {p : Addr} {o o' : HO}, P H μ ν → p ∈ ν → H p = some o → P (upd H p o') μ ν) ∧
    ∀ {H μ ν M}, P H μ ν → SR K Tb H μ ν M → ∀ i, (∀ d, (src.get M)[i]? = some d → J.go i H ∧ ∀ x H', J.yld i H x H' → (∀ a o, H a = some o → H' a = some o) ∧ R K H' μ ν d x) ∧ ((src.get M).length ≤ i → J.stop i H)
section
variable {K : PySem.W.Frag} {Tb : List (Addr × Str)} {J : It} {src : Src} {H H' : Hp} {μ μ' ν ν' : List Addr} {M : Mem}
theorem ItOk.ext (h : ItOk K Tb J src H μ ν) (e : Ext H μ H' μ') : ItOk K Tb J src H' μ' ν := by
  obtain ⟨P, p, k1, k2, k3, k4⟩ := h.ex
  exact ⟨P, k1 p e, k1, k2, k3, k4⟩
theorem ItOk.aside (h : ItOk K Tb J src H μ ν) (e : Aside H H' μ ν ν') : ItOk K Tb J src H' μ ν' := by
  obtain ⟨P, p, k1, k2, k3, k4⟩ := h.ex
  exact ⟨P, k2 p e, k1, k2, k3, k4⟩
theorem ItOk.wr (h : ItOk K Tb J src H μ ν) {p : Addr} {o o' : HO} (hp : p ∈ ν) (hq : H p = some o) : ItOk K Tb J src (upd H p o') μ ν := by
  obtain ⟨P, q, k1, k2, k3, k4⟩ := h.ex
  exact ⟨P, k3 q hp hq, k1, k2, k3, k4⟩
theorem ItOk.turn (h : ItOk K Tb J src H μ ν) (s : SR K Tb H μ ν M) (i : Nat) : (∀ d, (src.get M)[i]? = some d → J.go i H ∧ ∀ x H', J.yld i H x H' → (∀ a o, H a = some o → H' a = some o) ∧ R K H' μ ν d x) ∧ ((src.get M).length ≤ i → J.stop i H) := by
  obtain ⟨P, q, k1, k2, k3, k4⟩ := h.ex
  exact k4 q s i
/-! what is put aside may be written: nobody else looks at it -/
theorem free_ne {a p : Addr} (h : Free μ ν a) (hp : p ∈ ν) : a ≠ p := fun z => h.2 (z ▸ hp)
theorem AtT.wr {a p : Addr} {vs : List V} {o : HO} (h : AtT K H μ ν a vs) (hp : p ∈ ν) : AtT K (upd H p o) μ ν a vs := by
  rcases h with ⟨h, n⟩ | h
  · refine .inl ⟨?_, n⟩
    rcases h with h | ⟨u, h⟩
    · exact .inl (by rw [upd_ne (free_ne n hp)]; exact h)
    · exact .inr ⟨u, by rw [upd_ne (free_ne n hp)]; exact h⟩
  · exact .inr h
theorem AtL.wr {a p : Addr} {vs : List V} {o : HO} (h : AtL H μ ν a vs) (hp : p ∈ ν) : AtL (upd H p o) μ ν a vs := ⟨by rw [upd_ne (free_ne h.2 hp)]; exact h.1, h.2⟩
theorem AtS.wr {a p : Addr} {vs : List V} {o : HO} (h : AtS K H μ ν a vs) (hp : p ∈ ν) : AtS K (upd H p o) μ ν a vs := by
  rcases h with ⟨h, n⟩ | h
  · refine .inl ⟨?_, n⟩
    rcases h with q | ⟨u, q⟩
    · exact .inl (by rw [upd_ne (free_ne n hp)]; exact q)
    · exact .inr ⟨u, by rw [upd_ne (free_ne n hp)]; exact q⟩
  · exact .inr h
theorem AtD.wr {a p : Addr} {kvs : List (List Int × Int)} {o : HO} (h : AtD K H μ ν a kvs) (hp : p ∈ ν) : AtD K (upd H p o) μ ν a kvs := by
  obtain ⟨L, h1, h2, h3, h4⟩ := h
  exact ⟨L, by rw [upd_ne (free_ne h2 hp)]; exact h1, h2, fun q hq => (h3 q hq).wr hp, h4⟩
mutual
theorem R.wr {p : Addr} {o0 o : HO} (hp : p ∈ ν) (hq : H p = some o0) : ∀ {d : D} {v : V}, R K H μ ν d v → R K (upd H p o) μ ν d v
  | _, _, .non => .non
  | _, _, .bl b => .bl b
  | _, _, .int i => .int i
  | _, _, .str x => .str x
  | _, _, .tup h hs => .tup (h.wr hp) (Rs.wr hp hq hs)
  | _, _, .lst h hs => .lst (h.wr hp) (Rs.wr hp hq hs)
  | _, _, .ref h => .ref h
  | _, _, .scr h hs => .scr (h.wr hp) (Rs.wr hp hq hs)
  | _, _, .fn x => .fn x
  | _, _, .dct h => .dct (h.wr hp)
theorem Rs.wr {p : Addr} {o0 o : HO} (hp : p ∈ ν) (hq : H p = some o0) : ∀ {ds : List D} {ws : List V}, Rs K H μ ν ds ws → Rs K (upd H p o) μ ν ds ws
  | _, _, .nil => .nil
  | _, _, .cons h hs => .cons (R.wr hp hq h) (Rs.wr hp hq hs)
end
theorem REnv.wr {ρ : Env} {σ : L2.St} {p : Addr} {o0 o : HO} (h : REnv K H μ ν ρ σ) (hp : p ∈ ν) (hq : H p = some o0) : REnv K (upd H p o) μ ν ρ σ :=
  ⟨h.len, fun i d q => let ⟨v, a, b⟩ := h.at_ i d q; ⟨v, a, b.wr hp hq⟩⟩
theorem SR.wr {p : Addr} {vs ws : List V} (s : SR K Tb H μ ν M) (hp : p ∈ ν) (hq : H p = some (.lst vs)) : SR K Tb (upd H p (.lst ws)) μ ν M where
  len := s.len
  nd := s.nd
  at_ := fun n a u h1 h2 => by
    have q := s.at_ n a u h1 h2
    cases u with
    | lst ds =>
      obtain ⟨zs, e, r⟩ := q
      exact ⟨zs, by rw [upd_ne (fun z : a = p => (s.res p hp).2 (z ▸ mem_at h1))]; exact e, r.wr hp hq⟩
  res := fun a z => by
    refine ⟨fun q => ?_, (s.res a z).2⟩
    by_cases e : a = p
    · subst e; exact q.ne upd_same (fun ps z => by cases z) rfl
    · exact (s.res a z).1 fun u e' => q u (by rw [upd_ne e]; exact e')
  tab := tabs_write s.tab hq
/-- what is true of sets alone -/
abbrev OfSets (a : Addr) (φ : Heap → Prop) : Prop := ∀ h, φ h → ∃ ob es ep t, h.get? a = some ob ∧ ob.data = .set es ep t
theorem code_noset {c a : Addr} {q : Str} {φ : Heap → Prop} (hs : OfSets a φ) : LamX.CodeO c q ≠ .ext φ := fun z => by
  unfold LamX.CodeO at z
  injection z with z
  have at_ : ∀ (b : Addr) (ob : Obj), (⟨Array.replicate (c + 1) { cls := .none, data := .fields #[.none, .str q 0] }, {}⟩ : Heap).get? b = some ob → ob = { cls := .none, data := .fields #[.none, .str q 0] } := fun b ob e => by
    unfold Heap.get? at e
    simp only [Array.getElem?_replicate] at e
    by_cases l : b < c + 1
    · rw [if_pos l] at e
      exact (Option.some.inj e).symm
    · rw [if_neg l] at e
      cases e
  have e : φ ⟨Array.replicate (c + 1) { cls := .none, data := .fields #[.none, .str q 0] }, {}⟩ := by
    rw [← z]
    refine ⟨{ cls := .none, data := .fields #[.none, .str q 0] }, #[.none, .str q 0], 0, ?_, rfl, rfl⟩
    unfold Heap.get?
    simp only [Array.getElem?_replicate]
    rw [if_pos (Nat.lt_succ_self c)]
  obtain ⟨ob, es, ep, t, g, d⟩ := hs _ e
  rw [at_ a ob g] at d
  cases d
theorem tabs_writeX {T : List (Addr × Str)} {a : Addr} {φ : Heap → Prop} {o : HO} (hs : OfSets a φ) (t : LamX.Tabs T H) (h : H a = some (.ext φ)) : LamX.Tabs T (upd H a o) := fun p hp => by
  obtain ⟨ps, h1, h2, h3⟩ := t p hp
  refine ⟨ps, by rw [upd_ne (fun z => by rw [z, h] at h1; cases h1)]; exact h1, h2, fun pos cv hc => ?_⟩
  obtain ⟨c, e1, e2⟩ := h3 pos cv hc
  exact ⟨c, e1, by rw [upd_ne (fun z => by rw [z, h] at e2; exact code_noset hs (Option.some.inj e2).symm)]; exact e2⟩
theorem SR.wrx {p : Addr} {φ ψ : Heap → Prop} (hs : OfSets p φ) (s : SR K Tb H μ ν M) (hp : p ∈ ν) (hq : H p = some (.ext φ)) : SR K Tb (upd H p (.ext ψ)) μ ν M where
  len := s.len
  nd := s.nd
  at_ := fun n a u h1 h2 => by
    have q := s.at_ n a u h1 h2
    cases u with
    | lst ds =>
      obtain ⟨zs, e, r⟩ := q
      exact ⟨zs, by rw [upd_ne (fun z : a = p => (s.res p hp).2 (z ▸ mem_at h1))]; exact e, r.wr hp hq⟩
  res := fun a z => by
    refine ⟨fun q => ?_, (s.res a z).2⟩
    by_cases e : a = p
    · subst e; exact q.ne upd_same (fun ps z => by cases z) rfl
    · exact (s.res a z).1 fun u e' => q u (by rw [upd_ne e]; exact e')
  tab := tabs_writeX hs s.tab hq
theorem ext_wr {H0 H1 : Hp} {μ0 μ1 : List Addr} {p : Addr} {o : HO} (x : Ext H0 μ0 H1 μ1) (h : Nw H0 p) : Ext H0 μ0 (upd H1 p o) μ1 where
  ids := x.ids
  keep := fun a u e n t => by
    obtain ⟨h1, h2⟩ := x.keep a u e n t
    exact ⟨by rw [upd_ne (h.ne e t)]; exact h1, h2⟩
  som := fun a e => by
    by_cases z : a = p
    · rw [z]; exact h
    · exact x.som a fun u q => e u (by rw [upd_ne z]; exact q)
end
abbrev rI (K : PySem.W.Frag) (Tb : List (Addr × Str)) : Rel Src It := fun H μ ν s J => ItOk K Tb J s H μ ν
abbrev TIc (K : PySem.W.Frag) (S : Side) (W : WX) (f : Env → Mem → Res Src) : TI := Tg K S W (rI K S.Tb) f
section
variable {X : Cx} {S : Side} {W : WX} {tg l e : Expr} {fa fb f : Env → Mem → Res D} {pos : Pos} {es : List Expr} {fs : Env → Mem → Res (List D)}
theorem _root_.L2.PI.imp {X : Cx} {tg e : Expr} {t t' : TI} (h : PI X tg e t) (i : ∀ σ H Q, t' σ H Q → t σ H Q) : PI X tg e t' := ⟨fun pins s σ H Q I q => h.run pins s σ H Q I (i _ _ _ q)⟩
theorem _root_.L2.PI.or {X : Cx} {tg e : Expr} {t t' : TI} (h : PI X tg e t) (h' : PI X tg e t') : PI X tg e (fun σ H Q => t σ H Q ∨ t' σ H Q) :=
  ⟨fun pins s σ H Q I q => q.elim (fun q => h.run pins s σ H Q I q) fun q => h'.run pins s σ H Q I q⟩
def srcOf : D → Option Src
  | .tup ds => some (.fix ds)
  | .lst ds => some (.fix ds)
  | .scr ds => some (.fix ds)
  | .ref n => some (.sto n)
  | _ => none
def fIt (f : Env → Mem → Res D) : Env → Mem → Res Src := fun ρ M => (f ρ M).bind fun d M1 => match srcOf d with
  | some s => .ok s M1
  | none => .stuck
theorem it_tup {K Tb H μ ν a vs ds} (h1 : AtT K H μ ν a vs) (h2 : Rs K H μ ν ds vs) : ItOk K Tb (Itt K a) (.fix ds) H μ ν :=
  ⟨fun H μ ν => AtT K H μ ν a vs ∧ Rs K H μ ν ds vs, ⟨h1, h2⟩, fun p e => ⟨p.1.ext e, p.2.ext e⟩, fun p e => ⟨p.1.aside e, p.2.aside e⟩, fun p hp hq => ⟨p.1.wr hp, p.2.wr hp hq⟩, fun {H μ ν M} p s i => by
    refine ⟨fun d hd => ?_, fun hl => ⟨vs, p.1.seq, by rw [← p.2.length]; exact hl⟩⟩
    obtain ⟨v, e1, e2⟩ := p.2.get (i := i) hd
    refine ⟨⟨vs, v, p.1.seq, e1⟩, fun x H' y => ?_⟩
    obtain ⟨rfl, y⟩ := y
    have z := y vs p.1.seq
    rw [e1] at z
    cases z
    exact ⟨fun _ _ h => h, e2⟩⟩
theorem it_lst {K Tb H μ ν a vs ds} (h1 : AtS K H μ ν a vs) (h2 : Rs K H μ ν ds vs) : ItOk K Tb (Itl K a) (.fix ds) H μ ν :=
  ⟨fun H μ ν => AtS K H μ ν a vs ∧ Rs K H μ ν ds vs, ⟨h1, h2⟩, fun p e => ⟨p.1.ext e, p.2.ext e⟩, fun p e => ⟨p.1.aside e, p.2.aside e⟩, fun p hp hq => ⟨p.1.wr hp, p.2.wr hp hq⟩, fun {H μ ν M} p s i => by
    have q : SqL K H a vs := p.1.seq
    refine ⟨fun d hd => ?_, fun hl => ⟨vs, q, by rw [← p.2.length]; exact hl⟩⟩
    obtain ⟨v, e1, e2⟩ := p.2.get (i := i) hd
    refine ⟨⟨vs, v, q, e1⟩, fun x H' y => ?_⟩
    obtain ⟨rfl, y⟩ := y
    have z := y vs q
    rw [e1] at z
    cases z
    exact ⟨fun _ _ h => h, e2⟩⟩
theorem it_sto {K Tb H μ ν n a} (h1 : μ[n]? = some a) : ItOk K Tb (Itl K a) (.sto n) H μ ν :=
  ⟨fun H μ ν => μ[n]? = some a, h1, fun p e => e.at p, fun p e => p, fun p hp hq => p, fun {H μ ν M} p s i => by
    have hl : n < M.length := s.len ▸ (List.getElem?_eq_some_iff.mp p).1
    cases hm : M[n]? with
    | none => exact absurd hm (by rw [List.getElem?_eq_getElem hl]; exact fun z => by cases z)
    | some u =>
      cases u with
      | lst ds =>
        obtain ⟨vs, e1, e2⟩ := s.get p hm
        have q : SqL K H a vs := .inl (.inl e1)
        have eg : (Src.sto n).get M = ds := by unfold Src.get; simp only [hm]
        rw [eg]
        refine ⟨fun d hd => ?_, fun hl => ⟨vs, q, by rw [← e2.length]; exact hl⟩⟩
        obtain ⟨v, e3, e4⟩ := e2.get (i := i) hd
        refine ⟨⟨vs, v, q, e3⟩, fun x H' y => ?_⟩
        obtain ⟨rfl, y⟩ := y
        have z := y vs q
        rw [e3] at z
        cases z
        exact ⟨fun _ _ h => h, e4⟩⟩
/-- a list, a tuple -/
theorem ci_seq (hl : PE X l (T X.K S W f)) : PI X tg l (TIc X.K S W (fIt f)) :=
  L2.PI.imp (L2.PI.or (pi_list (tg := tg) hl) (pi_tup (tg := tg) hl)) fun σ H Q h => by
    obtain ⟨ρ, μ, ν, M, j, e, s, o⟩ := h
    unfold fIt at o
    cases q : f ρ M with
    | exn x M1 =>
      rw [q] at o
      exact .inl ⟨ρ, μ, ν, M, j, e, s, by rw [q]; exact o⟩
    | stuck => rw [q] at o; exact o.elim
    | ok d M1 =>
      rw [q] at o
      have o : Ok X.K S.Tb W σ ν (rI X.K S.Tb) H μ Q (match srcOf d with
        | some s => .ok s M1
        | none => .stuck) := o
      cases d with
      | tup ds =>
        refine .inr ⟨ρ, μ, ν, M, j, e, s, ?_⟩
        rw [q]
        intro v H' μ' x r s'
        cases r with
        | tup h1 h2 => exact ⟨_, rfl, ⟨_, h1.seq⟩, o _ H' μ' x (it_tup h1 h2) s'⟩
      | lst ds =>
        refine .inl ⟨ρ, μ, ν, M, j, e, s, ?_⟩
        rw [q]
        intro v H' μ' x r s'
        cases r with
        | lst h1 h2 => exact ⟨_, rfl, ⟨_, .inl (.inl h1.1)⟩, o _ H' μ' x (it_lst (.inl ⟨.inl h1.1, h1.2⟩) h2) s'⟩
      | scr ds =>
        refine .inl ⟨ρ, μ, ν, M, j, e, s, ?_⟩
        rw [q]
        intro v H' μ' x r s'
        cases r with
        | scr h1 h2 => exact ⟨_, rfl, ⟨_, h1.seq⟩, o _ H' μ' x (it_lst h1 h2) s'⟩
      | ref n =>
        refine .inl ⟨ρ, μ, ν, M, j, e, s, ?_⟩
        rw [q]
        intro v H' μ' x r s'
        cases r with
        | ref h1 =>
          obtain ⟨vs, hv⟩ := s'.mem (mem_at h1)
          exact ⟨_, rfl, ⟨_, .inl (.inl hv)⟩, o _ H' μ' x (it_sto h1) s'⟩
      | _ => exact o.elim
/-! range(..) in a loop's head -/
def fItR (r : Env → Mem → Res (Int × Int)) : Env → Mem → Res Src := fun ρ M => (r ρ M).bind fun q M1 => .ok (.fix (rgD q.1 q.2)) M1
theorem it_rng {K Tb H μ ν} (a b : Int) : ItOk K Tb (Itr a (b - a).toNat) (.fix (rgD a b)) H μ ν :=
  ⟨fun _ _ _ => True, trivial, fun _ _ => trivial, fun _ _ => trivial, fun _ _ _ => trivial, fun {H μ ν M} p s i => by
    have el : (rgD a b).length = (b - a).toNat := by simp [rgD]
    refine ⟨fun d hd => ?_, fun hl => by show (b - a).toNat ≤ i; rw [← el]; exact hl⟩
    have hi : i < (b - a).toNat := by rw [← el]; exact (List.getElem?_eq_some_iff.mp hd).1
    refine ⟨hi, fun x H' y => ?_⟩
    obtain ⟨rfl, rfl⟩ := y
    refine ⟨fun _ _ h => h, ?_⟩
    have e : (Src.fix (rgD a b)).get M = rgD a b := rfl
    rw [e] at hd
    unfold rgD at hd
    rw [List.getElem?_map, List.getElem?_range hi] at hd
    cases hd
    exact .int _⟩
theorem okRg_b {a b : Int} (h : okRg a b = true) : -(2 ^ 62) ≤ a ∧ a < 2 ^ 62 ∧ -(2 ^ 62) ≤ b ∧ b < 2 ^ 62 := by
  have h := of_decide_eq_true h
  omega
theorem ci_range1 {q p : Pos} {a : Expr} (hg : Gl X "range") (hm : X.mg "range" = none) (ha : PE X a (T X.K S W fa)) (na : starEach [a] X.env = (false, eval a X.env) :: starEach [] X.env := by rfl) (hs : starEach [a] X.env = [(false, eval a X.env)] := by rfl) :
    PI X tg (.Call (.Name "range" q) [a] [] p) (TIc X.K S W (fItR (fRg1 fa))) :=
  L2.PI.imp (pi_range1 (tg := tg) hg hm (ca_cons ha ca_nil na) hs) fun σ H Q h => by
    have h' : Tg X.K S W (rI X.K S.Tb) (fun ρ M => (fCons fa fNil ρ M).bind fun ds M1 => match ds with
      | [.int n] => if okRg 0 n = true then .ok (.fix (rgD 0 n)) M1 else .stuck
      | _ => .stuck) σ H Q := by
      obtain ⟨ρ, μ, ν, M, j, e, s, o⟩ := h
      refine ⟨ρ, μ, ν, M, j, e, s, ?_⟩
      simp only [fItR, fRg1, fCons, fNil] at o ⊢
      cases q : fa ρ M with
      | exn x M1 => simp only [q, Res.bind] at o ⊢; exact o
      | stuck => simp only [q, Res.bind] at o; exact o.elim
      | ok d M1 =>
        cases d with
        | int n =>
          simp only [q, Res.bind] at o ⊢
          by_cases hk : okRg 0 n = true
          · simp only [hk, if_true] at o ⊢
            exact o
          · simp only [hk] at o
            exact o.elim
        | _ => simp only [q, Res.bind] at o; exact o.elim
    refine Tg.bind (k := fun _ (ds : List D) M1 => match ds with
      | [.int n] => if okRg 0 n = true then Res.ok (Src.fix (rgD 0 n)) M1 else .stuck
      | _ => .stuck) h' fun ρ μ ν M ds vs H1 j e s rs o => ?_
    split at o
    · rename_i n
      obtain ⟨v, rfl, r⟩ := one_R rs
      cases r
      by_cases hk : okRg 0 n = true
      · rw [if_pos hk] at o
        obtain ⟨_, _, h3, h4⟩ := okRg_b hk
        have z := it_rng (K := X.K) (Tb := S.Tb) (H := H1) (μ := μ) (ν := ν) 0 n
        rw [Int.sub_zero] at z
        exact ⟨n, rfl, h3, h4, o _ H1 μ (Ext.refl _ _) z s⟩
      · rw [if_neg hk] at o
        exact o.elim
    · exact o.elim
theorem ci_range2 {q p : Pos} {a b : Expr} (hg : Gl X "range") (hm : X.mg "range" = none) (ha : PE X a (T X.K S W fa)) (hb : PE X b (T X.K S W fb)) (hs : starEach [a, b] X.env = [(false, eval a X.env), (false, eval b X.env)] := by rfl) (hs2 : starEach [b] X.env = [(false, eval b X.env)] := by rfl) :
    PI X tg (.Call (.Name "range" q) [a, b] [] p) (TIc X.K S W (fItR (fRg2 fa fb))) :=
  L2.PI.imp (pi_range2 (tg := tg) hg hm (ca_cons ha (ca_cons hb ca_nil hs2) (by rw [hs, hs2])) hs hs2) fun σ H Q h => by
    have h' : Tg X.K S W (rI X.K S.Tb) (fun ρ M => (fCons fa (fCons fb fNil) ρ M).bind fun ds M1 => match ds with
      | [.int m, .int n] => if okRg m n = true then .ok (.fix (rgD m n)) M1 else .stuck
      | _ => .stuck) σ H Q := by
      obtain ⟨ρ, μ, ν, M, j, e, s, o⟩ := h
      refine ⟨ρ, μ, ν, M, j, e, s, ?_⟩
      simp only [fItR, fRg2, fCons, fNil] at o ⊢
      cases q : fa ρ M with
      | exn x M1 => simp only [q, Res.bind] at o ⊢; exact o
      | stuck => simp only [q, Res.bind] at o; exact o.elim
      | ok d M1 =>
        cases q2 : fb ρ M1 with
        | exn x M2 => simp only [q, q2, Res.bind] at o ⊢; exact o
        | stuck => simp only [q, q2, Res.bind] at o; exact o.elim
        | ok d2 M2 =>
          cases d with
          | int m =>
            cases d2 with
            | int n =>
              simp only [q, q2, Res.bind] at o ⊢
              by_cases hk : okRg m n = true
              · simp only [hk, if_true] at o ⊢
                exact o
              · simp only [hk] at o
                exact o.elim
            | _ => simp only [q, q2, Res.bind] at o; exact o.elim
          | _ => simp only [q, q2, Res.bind] at o; exact o.elim
    refine Tg.bind (k := fun _ (ds : List D) M1 => match ds with
      | [.int m, .int n] => if okRg m n = true then Res.ok (Src.fix (rgD m n)) M1 else .stuck
      | _ => .stuck) h' fun ρ μ ν M ds vs H1 j e s rs o => ?_
    split at o
    · rename_i m n
      obtain ⟨v, w, rfl, r1, r2⟩ := two_R rs
      cases r1
      cases r2
      by_cases hk : okRg m n = true
      · rw [if_pos hk] at o
        exact ⟨m, n, rfl, okRg_b hk, o _ H1 μ (Ext.refl _ _) (it_rng m n) s⟩
      · rw [if_neg hk] at o
        exact o.elim
    · exact o.elim
end
end SD

set_option Elab.async false
set_option linter.all false
set_option maxRecDepth 100000
set_option maxHeartbeats 4000000
namespace SD
open PySem PySem.Spec PyProof.Rows L2
section
variable {X : Cx} {S : Side} {W : WX} {tg e a b : Expr} {f fa fb : Env → Mem → Res D} {pos : Pos} {st : Stmt} {sts : List Stmt} {g h : Env → Mem → SRes}
/-! ### blocks -/
def fNext : Env → Mem → SRes := fun ρ M => .nx ρ M
def fSeq (g h : Env → Mem → SRes) : Env → Mem → SRes := fun ρ M => (g ρ M).bind h
theorem cs_nil : PSs X [] (TSc X.K S W fNext) := pss_nil.imp fun E σ H h => by
  obtain ⟨ρ, μ, ν, M, j, e, s, o⟩ := h
  exact o σ H μ (Ext.refl _ _) .refl e s
theorem cs_cons (h1 : PS X st (TSc X.K S W g)) (h2 : PSs X sts (TSc X.K S W h)) : PSs X (st :: sts) (TSc X.K S W (fSeq g h)) := (pss_cons h1 h2).imp fun E σ H q => by
  obtain ⟨ρ, μ, ν, M, j, e, s, o⟩ := q
  refine ⟨ρ, μ, ν, M, j, e, s, ?_⟩
  unfold fSeq at o
  cases r : g ρ M with
  | nx ρ' M' =>
    rw [r] at o
    exact fun σ' H' μ' x k e' s' => ⟨ρ', μ', ν, M', S.mv (S.st j x) k, e', s', OkS.ext (r := h ρ' M') o x k⟩
  | rt d M' => rw [r] at o; exact o
  | bk ρ' M' => rw [r] at o; exact o
  | ct ρ' M' => rw [r] at o; exact o
  | exn x ρ' M' => rw [r] at o; exact o
  | stuck => rw [r] at o; exact o
theorem cs_one (h1 : PS X st (TSc X.K S W g)) : PSs X [st] (TSc X.K S W g) := pss_one h1
theorem c_pass : PS X (.Pass pos) (TSc X.K S W fNext) := ps_pass.imp fun E σ H h => by
  obtain ⟨ρ, μ, ν, M, j, e, s, o⟩ := h
  exact o σ H μ (Ext.refl _ _) .refl e s
def fBreak : Env → Mem → SRes := fun ρ M => .bk ρ M
def fCont : Env → Mem → SRes := fun ρ M => .ct ρ M
theorem c_break : PS X (.Break pos) (TSc X.K S W fBreak) := ps_break.imp fun E σ H h => by
  obtain ⟨ρ, μ, ν, M, j, e, s, o⟩ := h
  exact o σ H μ (Ext.refl _ _) .refl e s
theorem c_cont : PS X (.Continue pos) (TSc X.K S W fCont) := ps_continue.imp fun E σ H h => by
  obtain ⟨ρ, μ, ν, M, j, e, s, o⟩ := h
  exact o σ H μ (Ext.refl _ _) .refl e s
def fExpr (f : Env → Mem → Res D) : Env → Mem → SRes := fun ρ M => (f ρ M).toS ρ fun _ M1 => .nx ρ M1
theorem c_expr (he : PE X e (T X.K S W f)) (hs : swapsWith e none pos.line X.env = pure false := by rfl) : PS X (.Expr e pos) (TSc X.K S W (fExpr f)) := (ps_expr he hs).imp fun E σ H h =>
  TSc.toS (k := fun ρ (_ : D) M1 => .nx ρ M1) h fun ρ μ ν M d x H1 j e s r o => o σ H1 μ (Ext.refl _ _) .refl e s
def fRet (f : Env → Mem → Res D) : Env → Mem → SRes := fun ρ M => (f ρ M).toS ρ fun d M1 => .rt d M1
theorem c_ret (he : PE X e (T X.K S W f)) : PS X (.Return (some e) pos) (TSc X.K S W (fRet f)) := (ps_ret he).imp fun E σ H h =>
  TSc.toS (k := fun ρ (d : D) M1 => .rt d M1) h fun ρ μ ν M d x H1 j e s r o => o x H1 μ (Ext.refl _ _) r s
theorem c_retN : PS X (.Return none pos) (TSc X.K S W fun _ M => .rt .non M) := ps_retN.imp fun E σ H h => by
  obtain ⟨ρ, μ, ν, M, j, e, s, o⟩ := h
  exact o .non H μ (Ext.refl _ _) .non s
def fIfS (t : Env → Mem → Res Bool) (g h : Env → Mem → SRes) : Env → Mem → SRes := fun ρ M => (t ρ M).toS ρ fun k M1 => if k = true then g ρ M1 else h ρ M1
theorem c_ifS {c : Expr} {as bs : List Stmt} {t : Env → Mem → Res Bool} (hc : PT X c (TB X.K S W t)) (ha : PSs X as (TSc X.K S W g)) (hb : PSs X bs (TSc X.K S W h)) : PS X (.If c as bs pos) (TSc X.K S W (fIfS t g h)) :=
  (ps_if hc ha hb).imp fun E σ H q => TSc.toS (k := fun ρ k M1 => if k = true then g ρ M1 else h ρ M1) q fun ρ μ ν M k k' H1 j e s r o => by
    cases r
    cases k with
    | true => exact ⟨ρ, μ, ν, M, j, e, s, o⟩
    | false => exact ⟨ρ, μ, ν, M, j, e, s, o⟩
/-! ### assignments -/
def fAsg (f : Env → Mem → Res D) (asg : D → Env → Option Env) : Env → Mem → SRes := fun ρ M => (f ρ M).toS ρ fun d M1 => match asg d ρ with
  | some ρ' => .nx ρ' M1
  | none => .stuck
theorem asg_read {asg : D → Env → Option Env} {ix : List Nat} (hx : ∀ i ∈ S.fix, i ∉ ix) {E : Ends} {σ : L2.St} {H : Hp} (q : TSc X.K S W (fAsg f asg) E σ H) : tAsg (T X.K S W f) (GTc X.K S.Tb asg ix) E σ H :=
  TSc.toS (k := fun ρ d M1 => match asg d ρ with
    | some ρ' => .nx ρ' M1
    | none => .stuck) q fun ρ μ ν M d x H1 j e s r o => by
    cases q2 : asg d ρ with
    | none => rw [q2] at o; exact o.elim
    | some ρ' =>
      rw [q2] at o
      exact ⟨d, ρ, μ, ν, M, ρ', r, e, s, q2, fun σ' e' c => o σ' H1 μ (Ext.refl _ _) (fun i hi => c.2 i (hx i hi)) e' s⟩
theorem c_asg {asg : D → Env → Option Env} {ix : List Nat} (he : PE X e (T X.K S W f)) (hg : PG X tg (GTc X.K S.Tb asg ix)) (hs : swapsWithSole [tg] e pos.line X.env = pure false := by rfl) (hw : swappedStores [tg] e X.env = pure none := by rfl)
    (h1 : List.map (fun x => x.snd) (assignEach [tg] X.env) = [assign tg X.env] := by rfl) (hx : ∀ i ∈ S.fix, i ∉ ix := by kpt_turns) : PS X (.Assign [tg] e pos) (TSc X.K S W (fAsg f asg)) := (ps_asg he hg hs hw h1).imp fun E σ H q => asg_read hx q
/-- x = e -/
theorem c_set {i : Nat} {x : Str} {pos' : Pos} (hN : X.N.Nodup) (hi : X.N[i]? = some x) (hl : Loc X.env.scope x) (he : PE X e (T X.K S W f)) (hs : swapsWith e (some (.Name x pos')) pos.line X.env = pure false := by rfl)
    (hf : X.fn x = true ∨ X.env.scope.names.lookup x = some .local := by first | exact .inl rfl | exact .inr rfl | assumption) (hx : i ∉ S.fix := by kpt_turns) :
    PS X (.Assign [.Name x pos'] e pos) (TSc X.K S W (fAsg f (aName i))) := (ps_set hN hi hl he hs hf).imp fun E σ H q => TSc.toS (k := fun ρ d M1 => match aName i d ρ with
    | some ρ' => .nx ρ' M1
    | none => .stuck) q fun ρ μ ν M d x H1 j e s r o => o (σ.set i (some x)) H1 μ (Ext.refl _ _) (.set hx) (e.set r i) s
/-- x, y = e, e2, without a tuple -/
def fPar (i j : Nat) (fs : Env → Mem → Res (List D)) : Env → Mem → SRes := fun ρ M => (fs ρ M).toS ρ fun ds M1 => match ds with
  | [d, e] => .nx ((ρ.set i (some d)).set j (some e)) M1
  | _ => .stuck
/-- xs[i] = e, a list of the store -/
def setAt (M : Mem) (o i v : D) : Option Mem := match o, i with
  | .ref n, .int k => match M[n]? with
    | some (.lst ds) => match ixN ds.length k with
      | some j => some (M.set n (.lst (ds.set j v)))
      | none => none
    | none => none
  | _, _ => none
def fSetIx (f fo fi : Env → Mem → Res D) : Env → Mem → SRes := fun ρ M => (f ρ M).toS ρ fun v M1 => (fo ρ M1).toS ρ fun o M2 => (fi ρ M2).toS ρ fun i M3 => match setAt M3 o i v with
  | some M4 => .nx ρ M4
  | none => .stuck
variable {o i : Expr} {fo fi : Env → Mem → Res D}
theorem setAt_out {K Tb H μ ν M M'} {d e v : D} {x y z : V} (rd : R K H μ ν d x) (re : R K H μ ν e y) (rv : R K H μ ν v z) (s : SR K Tb H μ ν M) (h : setAt M d e v = some M') {Q : Hp → Prop}
    (k : ∀ H', Ext H μ H' μ → SR K Tb H' μ ν M' → Q H') : rSetL x y z H Q := by
  cases rd with
  | ref h1 =>
    rename_i n a
    cases re with
    | int i =>
      unfold setAt at h
      cases q : M[n]? with
      | none => simp only [q] at h; cases h
      | some u =>
        cases u with
        | lst ds =>
          simp only [q] at h
          cases q2 : ixN ds.length i with
          | none => simp only [q2] at h; cases h
          | some j =>
            simp only [q2] at h
            cases h
            obtain ⟨vs, e1, e2⟩ := s.get h1 q
            exact ⟨a, vs, i, j, rfl, rfl, e1, by rw [← e2.length]; exact q2, k _ (ext_write h1) (s.write h1 (e2.set rv j))⟩
    | _ => cases h
  | _ => cases h
theorem c_setIx {pt : Pos} (he : PE X e (T X.K S W f)) (ho : PE X o (T X.K S W fo)) (hi : PE X i (T X.K S W fi)) (hs : swapsWithSole [.Subscript o i pt] e pos.line X.env = pure false := by rfl) (hw : swappedStores [.Subscript o i pt] e X.env = pure none := by rfl)
    (h1 : List.map (fun x => x.snd) (assignEach [.Subscript o i pt] X.env) = [assign (.Subscript o i pt) X.env] := by rfl)
    (ha : ∀ v, assign (.Subscript o i pt) X.env v = (do
      let ov ← holding [v] (eval o X.env)
      let iv ← holding [v, ov] (eval i X.env)
      standAt pt
      holding [v, ov, iv] (setItem ov iv v)
      release [v, ov, iv] []) := by intro _; rfl) :
    PS X (.Assign [.Subscript o i pt] e pos) (TSc X.K S W (fSetIx f fo fi)) := (ps_asg he (pg_sub ho hi set_list ha) hs hw h1).imp fun E σ H q =>
  TSc.toS (k := fun ρ v M1 => (fo ρ M1).toS ρ fun o M2 => (fi ρ M2).toS ρ fun i M3 => match setAt M3 o i v with
    | some M4 => .nx ρ M4
    | none => .stuck) q fun ρ μ ν M v x H1 j e s r o1 => ⟨ρ, μ, ν, M, j, e, s, Ok.toS e o1 fun o M2 y H2 μ2 x2 ro s2 o2 => ⟨ρ, μ2, ν, M2, S.st j x2, e.ext x2, s2, Ok.toS (e.ext x2) o2 fun i M3 z H3 μ3 x3 ri s3 o3 => by
      cases q2 : setAt M3 o i v with
      | none => rw [q2] at o3; exact o3.elim
      | some M4 =>
        rw [q2] at o3
        exact setAt_out (ro.ext x3) ri (r.ext (x2.trans x3)) s3 q2 fun H' x4 s4 => o3 σ H' μ3 x4 .refl (e.ext (x2.trans (x3.trans x4))) s4⟩⟩
/-! ### loops -/
def forGo (src : Src) (asg : D → Env → Option Env) (body : Env → Mem → SRes) : Nat → Nat → Env → Mem → SRes
  | 0, i, ρ, M => if (src.get M).length = i then .nx ρ M else .stuck
  | k + 1, i, ρ, M => match (src.get M)[i]? with
    | none => .stuck
    | some d => match asg d ρ with
      | none => .stuck
      | some ρ' => match body ρ' M with
        | .nx ρ2 M2 => forGo src asg body k (i + 1) ρ2 M2
        | .ct ρ2 M2 => forGo src asg body k (i + 1) ρ2 M2
        | .bk ρ2 M2 => .nx ρ2 M2
        | .rt d M2 => .rt d M2
        | .exn x ρ2 M2 => .exn x ρ2 M2
        | .stuck => .stuck
def fFor (it : Env → Mem → Res Src) (asg : D → Env → Option Env) (body : Env → Mem → SRes) : Env → Mem → SRes := fun ρ M => (it ρ M).toS ρ fun src M1 => forGo src asg body (src.get M1).length 0 ρ M1
theorem c_for {iter : Expr} {body : List Stmt} {it : Env → Mem → Res Src} {asg : D → Env → Option Env} {ix : List Nat} (hp : PassesOwn (model X.prog X.w) X.A X.env X.xe) (hc : X.calm = true) (hi : PI X tg iter (TIc X.K S W it)) (hg : PG X tg (GTc X.K S.Tb asg ix)) (hb : PSs X body (TSc X.K S W g))
    (hs : ∀ x, foldedSetIterable iter X.env x = pure x := by intro _; rfl) (hx : ∀ i ∈ S.fix, i ∉ ix := by kpt_turns) : PS X (.For tg iter body [] pos) (TSc X.K S W (fFor it asg g)) := (ps_for hp hc hi hg hb hs).imp fun E σ H q =>
  TSc.toS (k := fun ρ src M1 => forGo src asg g (src.get M1).length 0 ρ M1) q fun ρ μ ν M src J H1 j e s rI o => by
    refine ⟨fun i m σ H => ∃ (ρ : Env) (μ : List Addr) (M : Mem), S.J H μ ν σ ∧ REnv X.K H μ ν ρ σ ∧ SR X.K S.Tb H μ ν M ∧ ItOk X.K S.Tb J src H μ ν ∧ OkS X.K S W ν σ H μ E (forGo src asg g m i ρ M), ⟨_, ρ, μ, M, j, e, s, rI, o⟩, ?_⟩
    rintro i m σ' H' ⟨ρ', μ', M', j', e', s', r', o'⟩
    have tn := r'.turn s' i
    cases m with
    | zero =>
      unfold forGo at o'
      by_cases hl : (src.get M').length = i
      · rw [if_pos hl] at o'
        exact .inl ⟨tn.2 (Nat.le_of_eq hl), o' σ' H' μ' (Ext.refl _ _) .refl e' s'⟩
      · rw [if_neg hl] at o'
        exact o'.elim
    | succ k =>
      unfold forGo at o'
      cases hd : (src.get M')[i]? with
      | none => rw [hd] at o'; exact o'.elim
      | some d =>
        simp only [hd] at o'
        cases ha : asg d ρ' with
        | none => simp only [ha] at o'; exact o'.elim
        | some ρ1 =>
          simp only [ha] at o'
          obtain ⟨go, yl⟩ := tn.1 d hd
          refine .inr ⟨go, fun σ2 H2 => ∃ (ρ : Env) (μ : List Addr) (M : Mem), S.J H2 μ ν σ2 ∧ REnv X.K H2 μ ν ρ σ2 ∧ SR X.K S.Tb H2 μ ν M ∧ ItOk X.K S.Tb J src H2 μ ν ∧ OkS X.K S W ν σ2 H2 μ E (forGo src asg g k (i + 1) ρ M), fun σ2 H2 z => ⟨k, Nat.lt_succ_self k, z⟩, fun x H2 y => ?_⟩
          obtain ⟨up, rd⟩ := yl x H2 y
          have x2 : Ext H' μ' H2 μ' := ext_up up
          refine ⟨d, ρ', μ', ν, M', ρ1, rd, e'.ext x2, s'.up up, ha, fun σ3 e3 c3 => ?_⟩
          have k3 : Kp S.fix σ' σ3 := fun i hi => c3.2 i (hx i hi)
          refine ⟨ρ1, μ', ν, M', S.mv (S.st j' x2) k3, e3, s'.up up, ?_⟩
          have o2 := OkS.ext o' x2 k3
          cases hb2 : g ρ1 M' with
          | nx ρ2 M2 =>
            simp only [hb2] at o2
            exact fun σ4 H4 μ4 x4 k4 e4 s4 => ⟨ρ2, μ4, M2, S.mv (S.st j' (x2.trans x4)) (k3.trans k4), e4, s4, (r'.ext x2).ext x4, OkS.ext o2 x4 k4⟩
          | ct ρ2 M2 =>
            simp only [hb2] at o2
            exact fun σ4 H4 μ4 x4 k4 e4 s4 => ⟨ρ2, μ4, M2, S.mv (S.st j' (x2.trans x4)) (k3.trans k4), e4, s4, (r'.ext x2).ext x4, OkS.ext o2 x4 k4⟩
          | bk ρ2 M2 => simp only [hb2] at o2; exact o2
          | rt d2 M2 => simp only [hb2] at o2; exact o2
          | exn x2 ρ2 M2 => simp only [hb2] at o2; exact o2
          | stuck => simp only [hb2] at o2; exact o2
def whileGo (t : Env → Mem → Res Bool) (body : Env → Mem → SRes) : Nat → Env → Mem → SRes
  | 0, _, _ => .stuck
  | k + 1, ρ, M => (t ρ M).toS ρ fun b M1 => if b = true then (match body ρ M1 with
    | .nx ρ2 M2 => whileGo t body k ρ2 M2
    | .ct ρ2 M2 => whileGo t body k ρ2 M2
    | .bk ρ2 M2 => .nx ρ2 M2
    | .rt d M2 => .rt d M2
    | .exn x ρ2 M2 => .exn x ρ2 M2
    | .stuck => .stuck) else .nx ρ M1
def fWhile (fuel : Nat) (t : Env → Mem → Res Bool) (body : Env → Mem → SRes) : Env → Mem → SRes := fun ρ M => whileGo t body fuel ρ M
theorem c_while {c : Expr} {body : List Stmt} {t : Env → Mem → Res Bool} {fuel : Nat} (hp : PassesOwn (model X.prog X.w) X.A X.env X.xe) (hc : PT X c (TB X.K S W t)) (hb : PSs X body (TSc X.K S W g)) : PS X (.While c body [] pos) (TSc X.K S W (fWhile fuel t g)) :=
  (ps_while hp hc hb).imp fun E σ H q => by
    obtain ⟨ρ, μ, ν, M, j, e, s, o⟩ := q
    refine ⟨fun m σ H => ∃ (ρ : Env) (μ : List Addr) (M : Mem), S.J H μ ν σ ∧ REnv X.K H μ ν ρ σ ∧ SR X.K S.Tb H μ ν M ∧ OkS X.K S W ν σ H μ E (whileGo t g m ρ M), ⟨fuel, ρ, μ, M, j, e, s, o⟩, ?_⟩
    rintro m σ' H' ⟨ρ', μ', M', j', e', s', o'⟩
    cases m with
    | zero => exact o'.elim
    | succ k =>
      unfold whileGo at o'
      refine ⟨ρ', μ', ν, M', j', e', s', Ok.toS e' o' fun b M1 b' H1 μ1 x1 rb s1 o1 => ?_⟩
      cases rb
      cases b with
      | false =>
        rw [if_neg Bool.false_ne_true]
        rw [if_neg Bool.false_ne_true] at o1
        exact o1 σ' H1 μ1 (Ext.refl _ _) .refl (e'.ext x1) s1
      | true =>
        rw [if_pos rfl]
        rw [if_pos rfl] at o1
        refine ⟨fun σ2 H2 => ∃ (ρ : Env) (μ : List Addr) (M : Mem), S.J H2 μ ν σ2 ∧ REnv X.K H2 μ ν ρ σ2 ∧ SR X.K S.Tb H2 μ ν M ∧ OkS X.K S W ν σ2 H2 μ E (whileGo t g k ρ M), fun σ2 H2 z => ⟨k, Nat.lt_succ_self k, z⟩, ρ', μ1, ν, M1, S.st j' x1, e'.ext x1, s1, ?_⟩
        cases hb2 : g ρ' M1 with
        | nx ρ2 M2 =>
          simp only [hb2] at o1
          exact fun σ4 H4 μ4 x4 k4 e4 s4 => ⟨ρ2, μ4, M2, S.mv (S.st j' (x1.trans x4)) k4, e4, s4, OkS.ext o1 x4 k4⟩
        | ct ρ2 M2 =>
          simp only [hb2] at o1
          exact fun σ4 H4 μ4 x4 k4 e4 s4 => ⟨ρ2, μ4, M2, S.mv (S.st j' (x1.trans x4)) k4, e4, s4, OkS.ext o1 x4 k4⟩
        | bk ρ2 M2 => simp only [hb2] at o1; exact o1
        | rt d2 M2 => simp only [hb2] at o1; exact o1
        | exn x2 ρ2 M2 => simp only [hb2] at o1; exact o1
        | stuck => simp only [hb2] at o1; exact o1
end
/-! ### comprehensions -/
def noX {α : Type} (r : Res α) : Res α := match r with
  | .exn _ _ => .stuck
  | r => r
abbrev WF : WX := fun _ _ _ _ => False
def compGo (src : Src) (own : List Nat) (asg : D → Env → Option Env) (t : Env → Mem → Res Bool) (f : Env → Mem → Res D) (ρ : Env) : Nat → Nat → List D → Mem → Res (List D)
  | 0, i, acc, M => if (src.get M).length = i then .ok acc M else .stuck
  | k + 1, i, acc, M => match (src.get M)[i]? with
    | none => .stuck
    | some d => match asg d (wipeE ρ own) with
      | none => .stuck
      | some ρ' => (noX (t ρ' M)).bind fun b M1 => if b = true then (noX (f ρ' M1)).bind fun y M2 => if acc.length < line then compGo src own asg t f ρ k (i + 1) (acc ++ [y]) M2 else .stuck
        else compGo src own asg t f ρ k (i + 1) acc M1
def fComp (it : Env → Mem → Res Src) (own : List Nat) (asg : D → Env → Option Env) (t : Env → Mem → Res Bool) (f : Env → Mem → Res D) : Env → Mem → Res (List D) := fun ρ M => (it ρ M).bind fun src M1 => compGo src own asg t f ρ (src.get M1).length 0 [] M1
theorem wipe_chg {σ σ2 : L2.St} {vs ix : List Nat} (c : Chg ix (wipe σ vs) σ2) (hx : ∀ i ∈ ix, i ∈ vs) : wipe σ2 vs = wipe σ vs := by
  have hlen : σ2.length = σ.length := by rw [c.1, wipe_length]
  have e : ∀ (τ τ' : L2.St), τ.length = τ'.length → (∀ j, j ∉ vs → τ[j]? = τ'[j]?) → wipe τ vs = wipe τ' vs := by
    intro τ τ' hl h
    apply List.ext_getElem?
    intro j
    by_cases hj : j ∈ vs
    · have key : ∀ (us : List Nat) (τ : L2.St), j ∈ us → (wipe τ us)[j]? = if j < τ.length then some none else none := by
        intro us
        induction us with
        | nil => intro τ h; cases h
        | cons u us ih =>
          intro τ h
          show ((wipe τ us).set u none)[j]? = _
          by_cases hu : u = j
          · subst hu
            by_cases hjl : u < τ.length
            · rw [List.getElem?_set_self (by rw [wipe_length]; exact hjl), if_pos hjl]
            · rw [if_neg hjl, List.getElem?_eq_none]
              simp [wipe_length]
              omega
          · rw [List.getElem?_set_ne hu]
            rcases List.mem_cons.mp h with z | z
            · exact absurd z.symm hu
            · exact ih τ z
      rw [key vs τ hj, key vs τ' hj, hl]
    · rw [wipe_out hj, wipe_out hj, h j hj]
  refine e σ2 σ hlen fun j hj => ?_
  rw [c.2 j fun z => hj (hx j z), wipe_out hj]
theorem Ok.noX {α β : Type} {K Tb σ ν} {rel : Rel α β} {H μ} {Q : β → Hp → Prop} {r : Res α} (h : Ok K Tb WF σ ν rel H μ Q (SD.noX r)) : Ok K Tb WF σ ν rel H μ Q r := by
  cases r with
  | ok a M => exact h
  | exn x M => exact False.elim h
  | stuck => exact h
section
variable {X : Cx} {S : Side} {W : WX} {elt tg iter : Expr} {f : Env → Mem → Res D} {t : Env → Mem → Res Bool} {it : Env → Mem → Res Src} {asg : D → Env → Option Env} {ix : List Nat} {ifs : List Expr} {scope : Scope} {own : List (Str × Nat)} {pos : Pos}
theorem cts_nil : PTs X [] (TB X.K S W fun _ M => .ok true M) := ⟨fun pins s σ H Q I h => pts_nil.run pins s σ H Q I (by
  obtain ⟨ρ, μ, ν, M, j, e, s, o⟩ := h
  exact o true H μ (Ext.refl _ _) rfl s)⟩
theorem cts_one {c : Expr} (h : PT X c (TB X.K S W t)) : PTs X [c] (TB X.K S W t) := pts_one h
theorem comp_read (hS : S.AnyN) (hx : ∀ i ∈ ix, i ∈ own.map (·.2)) (hy : ∀ i ∈ S.fix, i ∉ own.map (·.2)) {σ : L2.St} {H : Hp} {Q : VK} (h : TN X.K S W (fComp it (own.map (·.2)) asg t f) σ H Q) :
    tLc (TIc X.K S W it) (GTc X.K S.Tb asg ix) (TB X.K S WF t) (T X.K S WF f) (own.map (·.2)) σ H Q :=
  TN.bind (rel := rI X.K S.Tb) (k := fun ρ (src : Src) M1 => compGo src (own.map fun (x : Str × Nat) => x.2) asg t f ρ (src.get M1).length 0 [] M1) h fun ρ μ1 ν M src J H1 j1 e1 s1 rI o => by
    intro p hp
    refine ⟨fun i m H => ∃ (μ : List Addr) (M : Mem) (acc : List D) (va : List V), Ext H1 μ1 H μ ∧ SR X.K S.Tb H μ (p :: ν) M ∧ REnv X.K H μ (p :: ν) ρ σ ∧ ItOk X.K S.Tb J src H μ (p :: ν) ∧ H p = some (.lst va) ∧ Rs X.K H μ (p :: ν) acc va ∧
      OkN X.K S.Tb W σ ν H1 μ1 Q (compGo src (own.map (·.2)) asg t f ρ m i acc M), ⟨_, μ1, M, [], [], ext_fresh hp (s1.notin hp), s1.aside hp, e1.aside (aside_fresh hp), rI.aside (aside_fresh hp), upd_same, .nil, o⟩, ?_⟩
    rintro i m H' ⟨μ', M', acc, va, x', s', e', r', hD, ra, o'⟩
    have tn := r'.turn s' i
    cases m with
    | zero =>
      unfold compGo at o'
      by_cases hl : (src.get M').length = i
      · rw [if_pos hl] at o'
        exact .inl ⟨tn.2 (Nat.le_of_eq hl), o' p va H' μ' x' s' ra hD (.of hp)⟩
      · rw [if_neg hl] at o'
        exact o'.elim
    | succ k =>
      unfold compGo at o'
      cases hd : (src.get M')[i]? with
      | none => rw [hd] at o'; exact o'.elim
      | some d =>
        simp only [hd] at o'
        cases ha : asg d (wipeE ρ (own.map (·.2))) with
        | none => simp only [ha] at o'; exact o'.elim
        | some ρ1 =>
          simp only [ha] at o'
          obtain ⟨go, yl⟩ := tn.1 d hd
          refine .inr ⟨go, fun H2 => ∃ (μ : List Addr) (M : Mem) (acc : List D) (va : List V), Ext H1 μ1 H2 μ ∧ SR X.K S.Tb H2 μ (p :: ν) M ∧ REnv X.K H2 μ (p :: ν) ρ σ ∧ ItOk X.K S.Tb J src H2 μ (p :: ν) ∧ H2 p = some (.lst va) ∧ Rs X.K H2 μ (p :: ν) acc va ∧
            OkN X.K S.Tb W σ ν H1 μ1 Q (compGo src (own.map (·.2)) asg t f ρ k (i + 1) acc M), fun H2 z => ⟨k, Nat.lt_succ_self k, z⟩, fun x H2 y => ?_⟩
          obtain ⟨up, rd⟩ := yl x H2 y
          have x2 : Ext H' μ' H2 μ' := ext_up up
          have s2 := s'.up up
          have hD2 : H2 p = some (.lst va) := up _ _ hD
          refine ⟨d, _, μ', p :: ν, M', ρ1, rd, (e'.ext x2).wipe _, s2, ha, fun σ3 e3 c3 => ?_⟩
          have k3 : Kp S.fix σ σ3 := fun i hi => by rw [c3.2 i fun z => hy i hi (hx i z), wipe_out (hy i hi)]
          refine ⟨wipe_chg c3 hx, ρ1, μ', p :: ν, M', S.mv (hS (S.st j1 (x'.trans x2))) k3, e3, s2, ?_⟩
          have stuck0 : ∀ {α : Type} {r : Res α} {kk : α → Mem → Res (List D)}, OkN X.K S.Tb W σ ν H1 μ1 Q ((SD.noX r).bind kk) → ∃ a M2, r = .ok a M2 ∧ OkN X.K S.Tb W σ ν H1 μ1 Q (kk a M2) := by
            intro α r kk z
            cases r with
            | ok a M2 => exact ⟨a, M2, rfl, z⟩
            | exn x M2 => exact z.elim
            | stuck => exact z.elim
          obtain ⟨b, M3, hb, o3⟩ := stuck0 o'
          rw [hb]
          intro b' H3 μ3 x3 rb s3
          cases rb
          have x13 : Ext H1 μ1 H3 μ3 := (x'.trans x2).trans x3
          have r3 : ItOk X.K S.Tb J src H3 μ3 (p :: ν) := (r'.ext x2).ext x3
          have hn0 : p ∉ μ' := (s'.res p List.mem_cons_self).2
          obtain ⟨hD3, hn3⟩ := x3.keep p _ hD2 hn0 (fun ps z => by cases z)
          cases b with
          | false =>
            rw [if_neg Bool.false_ne_true]
            rw [if_neg Bool.false_ne_true] at o3
            exact ⟨μ3, M3, acc, va, x13, s3, (e'.ext x2).ext x3, r3, hD3, (ra.ext x2).ext x3, o3⟩
          | true =>
            rw [if_pos rfl]
            rw [if_pos rfl] at o3
            obtain ⟨y4, M4, hf, o4⟩ := stuck0 o3
            refine ⟨ρ1, μ3, p :: ν, M3, S.mv (hS (S.st j1 x13)) k3, e3.ext x3, s3, ?_⟩
            rw [hf]
            intro v4 H4 μ4 x4 ry s4
            obtain ⟨hD4, hn4⟩ := x4.keep p _ hD3 hn3 (fun ps z => by cases z)
            by_cases hl : acc.length < line
            · rw [if_pos hl] at o4
              have ra4 : Rs X.K H4 μ4 (p :: ν) acc va := ((ra.ext x2).ext x3).ext x4
              have hm : p ∈ p :: ν := List.mem_cons_self
              refine ⟨va, hD4, by rw [← ra4.length, sizeLine_eq]; exact hl, μ4, M4, acc ++ [y4], va ++ [v4], ext_wr (x13.trans x4) (.of hp), s4.wr hm hD4, (((e'.ext x2).ext x3).ext x4).wr hm hD4, (r3.ext x4).wr hm hD4, upd_same, ?_, o4⟩
              exact (ra4.wr hm hD4).append (.cons (ry.wr hm hD4) .nil)
            · rw [if_neg hl] at o4
              exact o4.elim
theorem c_lc (hc : X.calm = true) (hN : X.N.Nodup) (hi : PI X tg iter (TIc X.K S W it)) (ok : BlkOk X.N X.env.scope scope own) (hx : ∀ i ∈ ix, i ∈ own.map (·.2))
    (hg : ∀ (s : Shared) (H : Hp) (C : Addr) (cl : List (Str × Addr)) (fp : List Addr), PG (X.blk s H scope (compEnvC scope cl C X.env) fp) tg (GTc X.K S.Tb asg ix))
    (ht : ∀ (s : Shared) (H : Hp) (C : Addr) (cl : List (Str × Addr)) (fp : List Addr), PTs (X.blk s H scope (compEnvC scope cl C X.env) fp) ifs (TB X.K S WF t))
    (he : ∀ (s : Shared) (H : Hp) (C : Addr) (cl : List (Str × Addr)) (fp : List Addr), PE (X.blk s H scope (compEnvC scope cl C X.env) fp) elt (T X.K S WF f)) (hs : ∀ x, foldedSetIterable iter X.env x = pure x := by intro _; rfl) (hS : S.AnyN := by tbn_conj) (hy : ∀ i ∈ S.fix, i ∉ own.map (·.2) := by kpt_turns) :
    PE X (.ListComp elt [⟨tg, iter, ifs, 0⟩] scope pos) (TN X.K S W (fComp it (own.map (·.2)) asg t f)) := (pe_lc hc hN hi ok hg ht he hs).imp fun σ H Q h => comp_read hS hx hy h
/-- name = [..] on one line, the name a local: the list is not changed by anybody, or an object of the store -/
theorem c_setLc {i : Nat} {y : Str} {py spos : Pos} (hc : X.calm = true) (hN : X.N.Nodup) (hy : X.N[i]? = some y) (hyl : X.env.scope.names.lookup y = some .local)
    (hsw : swapsWith (.ListComp elt [⟨tg, iter, ifs, 0⟩] scope pos) (some (.Name y py)) spos.line X.env = pure true) (hi : PI X tg iter (TIc X.K S W it)) (ok : BlkOk X.N X.env.scope scope own) (hx : ∀ i ∈ ix, i ∈ own.map (·.2))
    (hg : ∀ (s : Shared) (H : Hp) (C : Addr) (cl : List (Str × Addr)) (fp : List Addr), PG (X.blk s H scope (compEnvC scope cl C X.env) fp) tg (GTc X.K S.Tb asg ix))
    (ht : ∀ (s : Shared) (H : Hp) (C : Addr) (cl : List (Str × Addr)) (fp : List Addr), PTs (X.blk s H scope (compEnvC scope cl C X.env) fp) ifs (TB X.K S WF t))
    (he : ∀ (s : Shared) (H : Hp) (C : Addr) (cl : List (Str × Addr)) (fp : List Addr), PE (X.blk s H scope (compEnvC scope cl C X.env) fp) elt (T X.K S WF f)) (hs : ∀ x, foldedSetIterable iter X.env x = pure x := by intro _; rfl) (hS : S.AnyN := by tbn_conj) (hy' : ∀ i ∈ S.fix, i ∉ own.map (·.2) := by kpt_turns) (hi' : i ∉ S.fix := by kpt_turns) :
    PS X (.Assign [.Name y py] (.ListComp elt [⟨tg, iter, ifs, 0⟩] scope pos) spos) (TSc X.K S W (fAsg (fLst (fComp it (own.map (·.2)) asg t f)) (aName i))) :=
  (ps_setLc hc hN hy hyl hsw hi ok hg ht he hs).imp fun E σ H q => by
    obtain ⟨ρ, μ, ν, M, j, e, s, o⟩ := q
    refine comp_read hS hx hy' ⟨ρ, μ, ν, M, j, e, s, ?_⟩
    unfold fAsg fLst at o
    cases r : fComp it (own.map (·.2)) asg t f ρ M with
    | ok ds M1 =>
      rw [r] at o
      intro p vs H' μ' x s' r' h1 h2
      exact o (σ.set i (some (.ref p))) H' μ' x (.set hi') ((e.ext x).set (.lst ⟨h1, (s'.res p List.mem_cons_self).2, free_res s h2⟩ r'.release) i) s'.release
    | exn x M1 =>
      rw [r] at o
      intro cls dd H' μ' x' rx s'
      exact o cls dd σ H' μ' x' .refl (e.ext x') rx s'
    | stuck => rw [r] at o; exact o
end
end SD

set_option Elab.async false
set_option linter.all false
set_option maxRecDepth 100000
set_option maxHeartbeats 4000000
namespace SD
open PySem PySem.Spec PyProof.Rows L2
/-! ### defs -/
/-- nothing beside the store -/
def plainS (Tb : List (Addr × Str)) : Side := ⟨Tb, [], fun _ _ _ _ => True, fun _ _ => trivial, fun _ _ => trivial⟩
abbrev WX0 (E : XK) : WX := fun cls d _ H => E cls d H
/-- a def's promise: n arguments, what it does to plain data -/
def SpOf (K : PySem.W.Frag) (Tb : List (Addr × Str)) (n : Nat) (m : List D → Mem → Res D) : Sp := fun vs H Q E =>
  ∃ (ds : List D) (μ ν : List Addr) (M : Mem), ds.length = n ∧ Rs K H μ ν ds vs ∧ SR K Tb H μ ν M ∧ Ok K Tb (WX0 E) [] ν (rD K) H μ Q (m ds M)
def startE (n : Nat) (ds : List D) : Env := ds.map some ++ List.replicate (n - ds.length) none
def mOf (n : Nat) (g : Env → Mem → SRes) : List D → Mem → Res D := fun ds M => match g (startE n ds) M with
  | .nx _ M' => .ok .non M'
  | .rt d M' => .ok d M'
  | .exn x _ M' => .exn x M'
  | _ => .stuck
theorem start_R {K : PySem.W.Frag} {H : Hp} {μ ν : List Addr} (N : List Str) {ds : List D} {vs : List V} (r : Rs K H μ ν ds vs) : REnv K H μ ν (startE N.length ds) (L2.start N vs) where
  len := by unfold startE L2.start; simp [r.length]
  at_ := fun i d h => by
    unfold startE at h
    unfold L2.start
    by_cases hi : i < ds.length
    · rw [List.getElem?_append_left (by simpa using hi), List.getElem?_map] at h
      cases q : ds[i]? with
      | none => rw [q] at h; cases h
      | some d' =>
        rw [q] at h
        cases h
        obtain ⟨v, h1, h2⟩ := r.get q
        refine ⟨v, ?_, h2⟩
        rw [List.getElem?_append_left (by simpa [← r.length] using hi), List.getElem?_map, h1]
        rfl
    · rw [List.getElem?_append_right (by simpa using hi)] at h
      rw [List.getElem?_replicate] at h
      split at h <;> cases h
section
variable {P : Program} {w : World} {K : PySem.W.Frag} {mg : Str → Option Value} {base : Heap} {x qual : Str} {params : Arguments} {body : List Stmt} {scope : Scope} {kws : List (Str × V)} {f : Addr} {fd : FuncData} {N ps : List Str} {k : Nat} {Tb : List (Addr × Str)}
theorem def_ok (F : FunD K x qual params body scope [] kws f fd) (S : FnScope N ps scope) {g : Env → Mem → SRes}
    (hb : ∀ (cdv : Value) (A : Around) (outer : List PySem.Env) (s : Shared) (H : Hp) (E : XK), Room k (A.deeper (envOfC qual scope s.heap.objs.size f cdv)) →
      PSs (cxOf (L2.CX P w) P w K mg base N qual scope f cdv A outer s H E) body (TSc K (plainS Tb) (WX0 E) g)) :
    FnOk P w K mg base (L2.CX P w) (k + 1) f fd ps (SpOf K Tb ps.length (mOf N.length g)) := by
  refine F.ok S (fun vs H Q E h => ?_) (fun cdv A outer s H vs Q E hr h => ⟨_, hb cdv A outer s H E hr, ?_⟩)
  · obtain ⟨ds, μ, ν, M, h1, h2, _⟩ := h
    rw [← h2.length, h1]
  · obtain ⟨ds, μ, ν, M, h1, h2, s0, o⟩ := h
    refine ⟨_, μ, ν, M, trivial, start_R N h2, s0, ?_⟩
    unfold mOf at o
    cases q : g (startE N.length ds) M with
    | nx ρ' M' => rw [q] at o; exact fun σ' H' μ' e _ _ s' => o .non H' μ' e .non s'
    | rt d M' => rw [q] at o; exact o
    | bk ρ' M' => rw [q] at o; exact o.elim
    | ct ρ' M' => rw [q] at o; exact o.elim
    | exn x ρ' M' => rw [q] at o; exact fun cls dd σ' H' μ' e _ _ rx s' => o cls dd H' μ' e rx s'
    | stuck => rw [q] at o; exact o.elim
end
section
variable {X : Cx} {S : Side} {W : WX} {e : Expr} {es : List Expr} {fs : Env → Mem → Res (List D)} {k n : Nat} {f : Addr} {fd : FuncData} {ps : List Str} {x : Str} {m : List D → Mem → Res D} {p pos : Pos}
def fFn (n : Nat) (m : List D → Mem → Res D) (fs : Env → Mem → Res (List D)) : Env → Mem → Res D := fun ρ M => (fs ρ M).bind fun ds M1 => if ds.length = n then m ds M1 else .stuck
theorem c_fn (F : FnOk X.prog X.w X.K X.mg X.base (L2.CX X.prog X.w) k f fd ps (SpOf X.K S.Tb n m)) (hr : Room k X.A) (hg : Gl X x) (hm : X.mg x = some (.ref f)) (hk : PySem.W.keepIn X.K (.ref f) = true) (hb : Binds X.K fd ps []) (tk : Takes X W)
    (ha : PA X (e :: es) (TL X.K S W fs)) (hdb : (x == ("__debug__" : Str)) = false := by decide) (he : starEach (e :: es) X.env = (false, eval e X.env) :: starEach es X.env := by rfl) (hpl : (backTo pos (starEach es X.env)).any (·.1) = false := by rfl) :
    PE X (.Call (.Name x p) (e :: es) [] pos) (T X.K S W (fFn n m fs)) := (pe_callS F hr hg hm hk hb (fun σ => passAt tk σ) ha hdb he hpl).imp fun σ H Q h =>
  Tg.bind (k := fun _ (ds : List D) M1 => if ds.length = n then m ds M1 else .stuck) h fun ρ μ ν M ds vs H1 j e s rs o => by
    by_cases hl : ds.length = n
    · rw [if_pos hl] at o
      refine ⟨ds, μ, ν, M, hl, rs, s, ?_⟩
      cases q : m ds M with
      | ok d M' => rw [q] at o; exact o
      | exn x M' => rw [q] at o; exact o
      | stuck => rw [q] at o; exact o
    · rw [if_neg hl] at o
      exact o.elim
end
end SD

set_option Elab.async false
set_option linter.all false
set_option maxRecDepth 100000
set_option maxHeartbeats 4000000
namespace SD
open PySem PySem.Spec PyProof.Rows L2
/-! ### what the written part says of an own exception class with fields -/
def oexO (C : Addr) : Option Obj → Bool
  | some ⟨.type t, _, .cls cd, sl⟩ => decide (t = "type") && (match cd.mro, sl.toList with
    | .ref c :: bm, [_, _, _, _, some (.builtin n), _] => decide (c = C) && (decide (n = "ValueError.__new__") && (!cd.hasDel && (cd.hasDict && PySem.HandSPX.refsVE bm)))
    | _, _ => false)
  | _ => false
def oexB (K : PySem.W.Frag) (C : Addr) : Bool := oexO C (K.lookup C) && (He.eqO (PySem.W.findIn K (.ref C) "__setattr__") (some (some (.builtin "object.__setattr__"))) && (decide (PySem.W.subIn K (.ref C) (.type "BaseException") = some true) &&
  (decide (PySem.W.typeIn K (.ref C) = some (.type "type")) && PySem.W.keepIn K (.ref C))))
theorem oexB_ok {K : PySem.W.Frag} {C : Addr} (h : oexB K C = true) : OexC K C := by
  unfold oexB at h
  obtain ⟨h0, h⟩ := He.ba h
  obtain ⟨h1, h⟩ := He.ba h
  obtain ⟨h2, h⟩ := He.ba h
  obtain ⟨h3, h4⟩ := He.ba h
  refine ⟨?_, He.eqO_ok h1, of_decide_eq_true h2, of_decide_eq_true h3, h4⟩
  unfold oexO at h0
  split at h0
  · rename_i t dd cd sl hl
    obtain ⟨t1, t2⟩ := He.ba h0
    split at t2
    · rename_i c bm a b d e n g hm hs
      obtain ⟨e1, t2⟩ := He.ba t2
      obtain ⟨e2, t2⟩ := He.ba t2
      obtain ⟨e3, t2⟩ := He.ba t2
      obtain ⟨e4, e5⟩ := He.ba t2
      have e1 := of_decide_eq_true e1
      have e2 := of_decide_eq_true e2
      have t1 := of_decide_eq_true t1
      subst t1
      subst e1
      subst e2
      have hd : cd.hasDel = false := by cases q : cd.hasDel <;> simp_all
      have hsl : sl = #[a, b, d, e, some (.builtin "ValueError.__new__"), g] := by
        have := congrArg List.toArray hs
        simpa using this
      obtain ⟨nm, bs, mro, ns, qn, hdct, sn, sub, ab, col, del⟩ := cd
      simp only at hm hd e4
      subst hm
      subst hd
      subst e4
      subst hsl
      exact ⟨_, _, _, _, bm, _, _, _, _, _, _, _, _, _, _, hl, e5⟩
    · cases t2
  · cases h0
def initB (K : PySem.W.Frag) (x : Str) : Bool := oexB K (He.ga K x) && (xfB K (He.ga K x) && (He.eqO (PySem.W.findIn K (.ref (He.ga K x)) "__init__") (some (some (.ref (He.ma K (He.ga K x) "__init__")))) &&
  decide (PySem.W.typeIn K (.ref (He.ma K (He.ga K x) "__init__")) = some (.type "function"))))
structure InitC (K : PySem.W.Frag) (x : Str) : Prop where
  o : OexC K (He.ga K x)
  f : XfC K (He.ga K x)
  i : PySem.W.findIn K (.ref (He.ga K x)) "__init__" = some (some (.ref (He.ma K (He.ga K x) "__init__")))
  t : PySem.W.typeIn K (.ref (He.ma K (He.ga K x) "__init__")) = some (.type "function")
theorem initB_ok {K : PySem.W.Frag} {x : Str} (h : initB K x = true) : InitC K x := by
  unfold initB at h
  obtain ⟨h0, h⟩ := He.ba h
  obtain ⟨h1, h⟩ := He.ba h
  obtain ⟨h2, h3⟩ := He.ba h
  exact ⟨oexB_ok h0, xfB_ok h1, He.eqO_ok h2, of_decide_eq_true h3⟩
end SD

set_option Elab.async false
set_option linter.all false
set_option maxRecDepth 100000
set_option maxHeartbeats 4000000
namespace SD
open PySem PySem.Spec PyProof.Rows L2
/-! ### raising -/
def toV : D → Option V
  | .non => some .non
  | .bl b => some (.bl b)
  | .int i => some (.int i)
  | .str x => some (.str x)
  | _ => none
def ofV : V → Option D
  | .non => some .non
  | .bl b => some (.bl b)
  | .int i => some (.int i)
  | .str x => some (.str x)
  | _ => none
def toVs : List D → Option (List V)
  | [] => some []
  | d :: ds => match toV d, toVs ds with
    | some v, some vs => some (v :: vs)
    | _, _ => none
section
variable {K : PySem.W.Frag} {H : Hp} {μ ν : List Addr}
theorem toV_R {d : D} {x v : V} (r : R K H μ ν d x) (h : toV d = some v) : x = v := by
  cases r <;> first | (cases h; rfl) | cases h
theorem ofV_R {d : D} {v : V} (h : ofV v = some d) : R K H μ ν d v := by
  cases v <;> first | (cases h; constructor) | cases h
theorem toVs_R : ∀ {ds : List D} {xs ys : List V}, Rs K H μ ν ds xs → toVs ds = some ys → xs = ys
  | _, _, _, .nil, h => by cases h; rfl
  | d :: ds, _, ys, .cons r t, h => by
    unfold toVs at h
    cases q1 : toV d with
    | none => simp only [q1] at h; cases h
    | some v =>
      cases q2 : toVs ds with
      | none => simp only [q1, q2] at h; cases h
      | some vs =>
        simp only [q1, q2] at h
        cases h
        rw [toV_R r q1, toVs_R t q2]
end
def fRaise (x : Str) (ns : List Str) (fs : Env → Mem → Res (List D)) : Env → Mem → SRes := fun ρ M => (fs ρ M).toS ρ fun ds M1 => match toVs ds with
  | some ys => if ys.length = ns.length ∧ ns.length ≤ 1000 then .exn ⟨x, (ns.zip ys).reverse⟩ ρ M1 else .stuck
  | none => .stuck
/-- an __init__ that stores its arguments -/
def spIni (C : Addr) (ns : List Str) : Sp := fun vs H Q _ => ∃ (a : Addr) (ys : List V), vs = .ref a :: ys ∧ ys.length = ns.length ∧ H a = some (exo a C none) ∧
  ∀ (dx : Addr) (H' : Hp), H dx = none → dx ≠ a → H' a = some (exo a C (some dx)) → H' dx = some (exd dx (ns.zip ys).reverse) → (∀ b, b ≠ a → b ≠ dx → H' b = H b) → Q .non H'
section
variable {X : Cx} {S : Side} {W : WX} {e : Expr} {es : List Expr} {fs : Env → Mem → Res (List D)} {k : Nat} {fI : Addr} {fd : FuncData} {ps ns : List Str} {x : Str} {p pos pos2 : Pos}
theorem c_raise (hc : X.calm = true) (tk : Takes X W) (C : InitC X.K x) (F1 : FnOk X.prog X.w X.K X.mg X.base (L2.CX X.prog X.w) k (He.ma X.K (He.ga X.K x) "__init__") fd ps (spIni (He.ga X.K x) ns)) (hr : Room (k + 1) X.A) (hb : Binds X.K fd ps []) (hg : Gl X x) (hm : X.mg x = some (.ref (He.ga X.K x)))
    (ha : PA X (e :: es) (TL X.K S W fs)) (hdb : (x == ("__debug__" : Str)) = false := by decide) (he : starEach (e :: es) X.env = (false, eval e X.env) :: starEach es X.env := by rfl) (hpl : (backTo pos (starEach es X.env)).any (·.1) = false := by rfl) :
    PS X (.Raise (some (.Call (.Name x p) (e :: es) [] pos)) none pos2) (TSc X.K S W (fRaise x ns fs)) :=
  (ps_raise hc tk (pmk_oex (dvs := []) C.o C.i C.t F1 hr hb .nil passL hg hm ha hdb he hpl)).imp fun E σ H q =>
    TSc.toS (k := fun ρ (ds : List D) M1 => match toVs ds with
      | some ys => if ys.length = ns.length ∧ ns.length ≤ 1000 then .exn ⟨x, (ns.zip ys).reverse⟩ ρ M1 else .stuck
      | none => .stuck) q fun ρ μ ν M ds vs H1 j e s r o => by
      cases q2 : toVs ds with
      | none => simp only [q2] at o; exact o.elim
      | some ys =>
        simp only [q2] at o
        have ev := toVs_R r q2
        subst ev
        by_cases hl : vs.length = ns.length ∧ ns.length ≤ 1000
        · rw [if_pos hl] at o
          refine ⟨by omega, fun a ha => ⟨a, vs, by rw [List.append_nil], hl.1, upd_same, fun dx H' h1 h2 h3 h4 h5 => ⟨rfl, dx, _, h3, h4, ?_, ?_⟩⟩⟩
          · rw [upd_ne h2] at h1
            exact h1
          · rw [upd_ne h2] at h1
            have kp : ∀ b u, H1 b = some u → upd (L2.del H' a) dx (.xd (ns.zip vs).reverse) b = some u := fun b u hb => by
              have n1 : b ≠ dx := ne_of_none hb h1
              have n2 : b ≠ a := ne_of_none hb ha
              rw [upd_ne n1, del_ne n2, h5 b n2 n1, upd_ne n2]
              exact hb
            have xt : Ext H1 μ (upd (L2.del H' a) dx (.xd (ns.zip vs).reverse)) μ := ext_up kp
            exact o (.ref (He.ga X.K x)) (some dx) σ _ μ xt .refl (e.ext xt) ⟨rfl, fun _ => ⟨dx, rfl, upd_same, s.notin h1⟩⟩ (s.up kp)
        · rw [if_neg hl] at o
          exact o.elim
/-- X(), X an own class without __init__ -/
theorem pmk_own0 {C : Addr} {bmB : List Value} {B newId initId : String} (F : ExcBaseFacts B newId initId bmB) (q : PySem.W.excIn X.K C bmB newId = true) (gC : X.mg x = some (.ref C)) (kC : PySem.W.keepIn X.K (.ref C) = true) (r : Raises X (.ref C)) (hg : Gl X x)
    (hdb : (x == ("__debug__" : Str)) = false := by decide) : PMk X (.Call (.Name x p) [] [] pos) (fun _ H Q => Q (.ref C) none H) := by
  intro pins s σ H Q I h
  refine wpAny_Call_Name_kw (ld_glob I hg gC ?_ hdb)
  refine PySem.W.callWith_K0 I.kIn kC ?_
  obtain ⟨bm, N, nm, qn, bs, hdct, sn, sub, ab, col, dd, k0, k1, k2, k3, k5, mN, hC, hN, hni, T⟩ := exc_obj I.kIn q
  exact wpAny_call_exc_subT F T hC hN hni (fun h' e hm => mk_of I hm r h (I.hok.gone hm.new)) (by show 0 ≤ sizeLine; exact Nat.zero_le _)
theorem c_raise0 (hc : X.calm = true) (tk : Takes X W) (q : PySem.W.excIn X.K (He.ga X.K x) He.veBase "ValueError.__new__" = true ∧ PySem.W.keepIn X.K (.ref (He.ga X.K x)) = true ∧ PySem.W.subIn X.K (.ref (He.ga X.K x)) (.type "BaseException") = some true ∧
    PySem.W.typeIn X.K (.ref (He.ga X.K x)) = some (.type "type")) (hg : Gl X x) (hm : X.mg x = some (.ref (He.ga X.K x))) (hdb : (x == ("__debug__" : Str)) = false := by decide) :
    PS X (.Raise (some (.Call (.Name x p) [] [] pos)) none pos2) (TSc X.K S W fun ρ M => .exn ⟨x, []⟩ ρ M) :=
  (ps_raise hc tk (pmk_own0 PySem.F.excBase_ValueError q.1 hm q.2.1 (raises_own q.2.2.1 q.2.2.2) hg hdb)).imp fun E σ H q => by
    obtain ⟨ρ, μ, ν, M, j, e, s, o⟩ := q
    exact o _ none σ H μ (Ext.refl _ _) .refl e ⟨rfl, fun z => absurd rfl z⟩ s
end
/-! the __init__ of one field, of two: what their readings give -/
section
variable {K : PySem.W.Frag} {C : Addr} {n1 n2 : Str} {vs : List V} {H : Hp} {Q : VK} {E : XK}
theorem ini_len {ns : List Str} (h : spIni C ns vs H Q E) : vs.length = ns.length + 1 := by
  obtain ⟨a, ys, rfl, hl, _⟩ := h
  simp [hl]
theorem ini1_read {N : List Str} (hN : N.length = 2) (O : OexC K C) (a1 : PySem.W.findIn K (.ref C) n1 = some none) (h : spIni C [n1] vs H Q E) : tOst K n1 (tVar 0) (tVar 1) { nx := fun _ H' => Q .non H', rt := Q } (L2.start N vs) H := by
  obtain ⟨a, ys, rfl, hl, h0, k⟩ := h
  match ys, hl with
  | [y], _ =>
    refine ⟨y, by unfold L2.start; simp, .ref a, by unfold L2.start; simp, a, C, rfl, O, a1, .inl ⟨h0, fun dx hd hn => k dx _ hd hn upd_same (by rw [upd_ne hn, upd_same]; rfl) fun b h1 h2 => by rw [upd_ne h1, upd_ne h2]⟩⟩
theorem ini2_read {N : List Str} (hN : N.length = 3) (O : OexC K C) (a1 : PySem.W.findIn K (.ref C) n1 = some none) (a2 : PySem.W.findIn K (.ref C) n2 = some none) (h : spIni C [n1, n2] vs H Q E) :
    tSeq (tOst K n1 (tVar 0) (tVar 1)) (tOst K n2 (tVar 0) (tVar 2)) { nx := fun _ H' => Q .non H', rt := Q } (L2.start N vs) H := by
  obtain ⟨a, ys, rfl, hl, h0, k⟩ := h
  match ys, hl with
  | [y, z], _ =>
    refine ⟨y, by unfold L2.start; simp, .ref a, by unfold L2.start; simp, a, C, rfl, O, a1, .inl ⟨h0, fun dx hd hn => ?_⟩⟩
    refine ⟨z, by unfold L2.start; simp, .ref a, by unfold L2.start; simp, a, C, rfl, O, a2, .inr ⟨dx, [(n1, y)], upd_same, by rw [upd_ne hn, upd_same], by show 1 ≤ 900; decide, ?_⟩⟩
    refine k dx _ hd hn (by rw [upd_ne hn.symm, upd_same]) (by rw [upd_same]; rfl) fun b h1 h2 => by rw [upd_ne h2, upd_ne h1, upd_ne h2]
end

end SD

set_option Elab.async false
set_option linter.all false
set_option maxRecDepth 100000
set_option maxHeartbeats 4000000
namespace SD
open PySem PySem.Spec PyProof.Rows L2
/-- the ends of a suite whose exception's name (slot i) goes behind it -/
def gone (i : Nat) (D : Ends) : Ends := { nx := fun σ H => D.nx (σ.set i none) H, rt := D.rt, bk := fun σ H => D.bk (σ.set i none) H, ct := fun σ H => D.ct (σ.set i none) H }
structure Cl where
  cls : Value
  slot : Option Nat
  ts : Addr → Value → Option Addr → TS
def Cl.take (c : Cl) (D : Ends) (a : Addr) (cls : Value) (d : Option Addr) (σ : L2.St) (H : Hp) : Prop := match c.slot with
  | none => c.ts a cls d D σ H
  | some i => c.ts a cls d (gone i D) (σ.set i (some (.ref a))) H
def wCl (K : PySem.W.Frag) (Wout : WX) (D : Ends) : List Cl → WX
  | [] => Wout
  | c :: r => fun cls d σ H => ∃ b, PySem.W.exmOne K cls c.cls = some b ∧ (b = true → ∀ a, H a = none → c.take D a cls d σ H) ∧ (b = false → wCl K Wout D r cls d σ H)
inductive ClOk (X : Cx) : List ExceptHandler → List Cl → Prop
  | nil : ClOk X [] []
  | bare {x : Str} {c : Value} {ts : Addr → Value → Option Addr → TS} {st : Stmt} {suite : List Stmt} {np hp : Pos} {hs : List ExceptHandler} {l : List Cl} (nm : Names X x c)
      (ok : ∀ (a : Addr) (oe : Obj) (cls : Value) (d : Option Addr) (pn : List (Addr × Obj)), Zc cls d oe → (∃ vs, oe.data = .fields vs) → PSs (X.suite a ((a, oe) :: pn)) (st :: suite) (ts a cls d)) (rest : ClOk X hs l) :
      ClOk X (.ExceptHandler (some (.Name x np)) none (st :: suite) hp :: hs) (⟨c, none, ts⟩ :: l)
  | named {x n : Str} {i : Nat} {c : Value} {ts : Addr → Value → Option Addr → TS} {st : Stmt} {suite : List Stmt} {np hp : Pos} {hs : List ExceptHandler} {l : List Cl} (nm : Names X x c) (hi : X.N[i]? = some n) (hl : X.env.kindOf n = some .local)
      (ok : ∀ (a : Addr) (oe : Obj) (cls : Value) (d : Option Addr) (pn : List (Addr × Obj)), Zc cls d oe → (∃ vs, oe.data = .fields vs) → PSs (X.suite a ((a, oe) :: pn)) (st :: suite) (ts a cls d)) (rest : ClOk X hs l) :
      ClOk X (.ExceptHandler (some (.Name x np)) (some n) (st :: suite) hp :: hs) (⟨c, some i, ts⟩ :: l)
section
variable {X : Cx} {body : List Stmt} {hd : ExceptHandler} {hds : List ExceptHandler} {l : List Cl} {pos : Pos} {tb : WX → TS} {Wout : WX}
/-- a caught exception lies on the ground: the frame's state is as the raise left it -/
structure Down (X : Cx) (pins : List (Addr × Obj)) (σ : L2.St) (H : Hp) (a : Addr) (B : Heap) (cls : Value) (d : Option Addr) (sI s : Shared) : Prop where
  inv : L2.Inv X pins σ H sI
  gr : ∀ b o, sI.heap.get? b = some o → b ∉ frs X.stack → B.get? b = some o
  up : sI.heap.UpToSlots s.heap
  fly : PySem.HandSPX.FlyingZ B (X.env :: X.outer) a (Zc cls d) s.heap
  na : H a = none
  os : s.os = sI.os
  ag : AllBare s.gens
theorem Down.here {pins : List (Addr × Obj)} {σ : L2.St} {H : Hp} {a : Addr} {B : Heap} {cls : Value} {d : Option Addr} {sI s : Shared} (q : Down X pins σ H a B cls d sI s) : L2.Inv X pins σ H s := q.inv.landed q.gr q.fly.1 q.up q.os q.ag
theorem Down.apart {pins : List (Addr × Obj)} {σ : L2.St} {H : Hp} {a : Addr} {B : Heap} {cls : Value} {d : Option Addr} {sI s : Shared} (hf : X.env.frame = some X.env.locals) (q : Down X pins σ H a B cls d sI s) :
    ∃ (oe : Obj) (vs : Array Value), s.heap.get? a = some oe ∧ Zc cls d oe ∧ oe.data = .fields vs ∧ L2.Inv (X.suite a ((a, oe) :: (X.pn ++ pins))) [] σ H s := by
  obtain ⟨oe, vs, he, hz, hd⟩ := q.fly.there
  have out : a ∉ frs (X.env :: X.outer) := fun hm => by
    obtain ⟨_, o', e', hnf⟩ := q.fly.2.2.1.mem hm
    rw [he] at e'
    cases e'
    exact hnf _ hd
  have nL : a ≠ X.env.locals := fun z => out (List.mem_filterMap.mpr ⟨X.env, List.mem_cons_self, by rw [hf, z]⟩)
  have nF : a ∉ X.fs := fun hm => by
    obtain ⟨ev, h1, h2⟩ := List.mem_filterMap.mp hm
    exact out (List.mem_filterMap.mpr ⟨ev, List.mem_cons_of_mem _ h1, h2⟩)
  exact ⟨oe, vs, he, hz, hd, q.here.suite he hd q.na nL nF⟩
/-- the class that the clause names is looked up -/
theorem name_test {pins : List (Addr × Obj)} {σ : L2.St} {H : Hp} {a : Addr} {oe : Obj} {s : Shared} {x : Str} {c : Value} {np : Pos} {Q : Value → Shared → Prop} {E : Value → Shared → Prop} (nm : Names X x c) (I : L2.Inv (X.suite a ((a, oe) :: (X.pn ++ pins))) [] σ H s) (q : Q c s) :
    wpAny (model X.prog X.w) (X.A.mark (some (.ref a))) (eval (.Name x np) X.env) Q E s := by
  obtain ⟨hg, h1, h2 | ⟨h2, h3, h4⟩⟩ := nm
  · exact ld_glob (X := X.suite a ((a, oe) :: (X.pn ++ pins))) I hg h2 q h1
  · exact ld_blt (X := X.suite a ((a, oe) :: (X.pn ++ pins))) I hg h2 h3 q h4 h1
theorem handlers_ok (hs : X.stack = X.env :: X.outer) (hf : X.env.frame = some X.env.locals) (hN : X.N.Nodup) (tk : Takes X Wout) {pins : List (Addr × Obj)} {σ : L2.St} {H : Hp} {a : Addr} {B : Heap} {cls : Value} {d : Option Addr} {sI : Shared} {D : Ends} {E0 : L2.Cx.Ok X} :
    ∀ {hs : List ExceptHandler} {l : List Cl}, ClOk X hs l → ∀ {s : Shared}, Down X pins σ H a B cls d sI s → wCl X.K Wout D l cls d σ H → wpAny (model X.prog X.w) X.A (handleBy (.ref a) X.env hs) (SP X pins D) X.xe s := by
  intro hs0 l hc
  induction hc with
  | nil =>
    intro s q w
    refine wpAny_handleBy_nil ?_
    obtain ⟨k1, k2, k3, oe, vs, T, oT, ts', he, hz, hd, h1, hr⟩ := id q.fly
    unfold PySem.passOn
    refine wpAny_bind (wpAny_field he hd h1 ?_)
    rw [if_neg (show ¬ ((Value.ref T == Value.none) = true) from by simp)]
    have fin : wpAny (model X.prog X.w) X.A (setFlight (.ref a) X.env.frame) (fun _ s4 => wpAny (model X.prog X.w) X.A (throw (.ref a) : Sem Flow) (SP X pins D) X.xe s4) X.xe s := by
      rw [hf]
      exact PySem.HandSPX.setFlight_upZ q.fly fun h4 hh4 up4 => wpAny_throw (tk _ _ ⟨a, B, sI, pins, σ, H, cls, d, rfl, q.inv, q.gr, q.up.trans up4, .inr (.inr (by rw [hs]; exact hh4)), q.na, q.os, q.ag, w⟩)
    first
      | exact wpAny_bind (wpAny_pure (wpAny_bind fin))
      | exact wpAny_bind fin
  | bare nm ok rest ih =>
    intro s q w
    obtain ⟨b, hb, yes, no⟩ := w
    obtain ⟨oe, vs, he, hz, hd, S⟩ := q.apart hf
    refine wpAny_handleBy_cons (codeAny_handlers_test ?_) (by intro z; cases z)
    have LT : PySem.W.Looks (model X.prog X.w) s.heap (typeOf (.ref a)) cls := fun A Q E s k z => wpAny_typeOf_ref (k _ _ he) (by rw [hz.1]; exact z)
    refine name_test nm S ((PySem.W.exm_one (M := model X.prog X.w) q.here.kIn LT hb).here ?_)
    cases b with
    | false => exact ih q (no rfl)
    | true =>
      refine codeAny_handlers_suite (PySem.HandSPX.lands_againZ q.fly fun h4 fl4 up4 => ?_)
      have q4 : Down X pins σ H a B cls d sI { s with heap := h4 } := ⟨q.inv, q.gr, q.up.trans up4, fl4, q.na, q.os, q.ag⟩
      obtain ⟨oe4, vs4, _, hz4, hd4, S4⟩ := q4.apart hf
      refine wpAny_mono ((ok a oe4 cls d (X.pn ++ pins) hz4 ⟨_, hd4⟩).run [] _ _ H _ S4 (yes rfl a q.na)) (fun f s6 z => ?_) (fun _ _ z => False.elim z)
      cases f with
      | ret u =>
        obtain ⟨v, σ6, H6, I6, r6, z6⟩ := z
        exact ⟨v, σ6, H6, I6.unsuite E0, r6, z6⟩
      | next =>
        obtain ⟨σ6, H6, I6, z6⟩ := z
        exact ⟨σ6, H6, I6.unsuite E0, z6⟩
      | brk =>
        obtain ⟨σ6, H6, I6, z6⟩ := z
        exact ⟨σ6, H6, I6.unsuite E0, z6⟩
      | cont =>
        obtain ⟨σ6, H6, I6, z6⟩ := z
        exact ⟨σ6, H6, I6.unsuite E0, z6⟩
  | @named x n i c ts st suite np hp hs2 l2 nm hi hl ok rest ih =>
    intro s q w
    obtain ⟨b, hb, yes, no⟩ := w
    obtain ⟨oe, vs, he, hz, hd, S⟩ := q.apart hf
    refine wpAny_handleBy_cons (codeAny_handlers_test ?_) (by intro z; cases z)
    have LT : PySem.W.Looks (model X.prog X.w) s.heap (typeOf (.ref a)) cls := fun A Q E s k z => wpAny_typeOf_ref (k _ _ he) (by rw [hz.1]; exact z)
    refine name_test nm S ((PySem.W.exm_one (M := model X.prog X.w) q.here.kIn LT hb).here ?_)
    cases b with
    | false => exact ih q (no rfl)
    | true =>
      refine codeAny_handlers_suite_as (PySem.HandSPX.lands_againZ q.fly fun h4 fl4 up4 => ?_)
      have q4 : Down X pins σ H a B cls d sI { s with heap := h4 } := ⟨q.inv, q.gr, q.up.trans up4, fl4, q.na, q.os, q.ag⟩
      obtain ⟨oe4, vs4, _, hz4, hd4, S4⟩ := q4.apart hf
      refine store_ok (X := X.suite a ((a, oe4) :: (X.pn ++ pins))) (v := .ref a) S4 hN hi (.inl hl) rfl (fun s5 S5 => ?_) (.inr hl)
      have behind : ∀ {s6 : Shared} {σ6 : L2.St} {H6 : Hp} {Q : Shared → Prop}, L2.Inv (X.suite a ((a, oe4) :: (X.pn ++ pins))) [] σ6 H6 s6 → (∀ s7, L2.Inv X pins (σ6.set i none) H6 s7 → Q s7) →
          wpAny (model X.prog X.w) X.A (do bindName X.env n .none; unbindBehindTheSuite X.env n hp) (fun _ s7 => Q s7) X.xe s6 := fun I6 hq => gone_ok (I6.unsuite E0) hN hi hl hq
      refine wpAny_mono ((ok a oe4 cls d (X.pn ++ pins) hz4 ⟨_, hd4⟩).run [] s5 _ H _ S5 (yes rfl a q.na)) (fun f s6 z => ?_) (fun _ _ z => False.elim z)
      cases f with
      | ret u =>
        obtain ⟨v, σ6, H6, I6, r6, z6⟩ := z
        exact behind I6 fun s7 J7 => ⟨v, _, H6, J7, r6, z6⟩
      | next =>
        obtain ⟨σ6, H6, I6, z6⟩ := z
        exact behind I6 fun s7 J7 => ⟨_, H6, J7, z6⟩
      | brk =>
        obtain ⟨σ6, H6, I6, z6⟩ := z
        exact behind I6 fun s7 J7 => ⟨_, H6, J7, z6⟩
      | cont =>
        obtain ⟨σ6, H6, I6, z6⟩ := z
        exact behind I6 fun s7 J7 => ⟨_, H6, J7, z6⟩
theorem ps_try_cl (hs : X.stack = X.env :: X.outer) (hf : X.env.frame = some X.env.locals) (hN : X.N.Nodup) (tk : Takes X Wout)
    (hb : ∀ (W : WX) (pn : List (Addr × Obj)) (xe : Value → Shared → Prop), Takes (X.tr pn xe) W → PassesOwn (model X.prog X.w) X.A X.env xe → PSs (X.tr pn xe) body (tb W)) (hh : ClOk X (hd :: hds) l) :
    PS X (.Try body (hd :: hds) [] [] pos) (fun D σ H => tb (wCl X.K Wout D l) D σ H) := by
  refine ⟨fun pins s σ H D I h => wpAny_Try_except ?_⟩
  have hfr : X.A.frames = some (X.env :: X.outer) := by rw [I.ok.frames, hs]
  refine wpAny_mono ((hb (wCl X.K Wout D l) (X.pn ++ pins) (fun e s₁ => wpAny (model X.prog X.w) X.A (noteFrame e X.env) (fun _ s₂ => wpAny (model X.prog X.w) X.A (setFlight e none)
    (fun _ s₃ => wpAny (model X.prog X.w) X.A (handleBy e X.env (hd :: hds)) (SP X pins D) X.xe s₃) X.xe s₂) X.xe s₁) (fun u s' xx => ?_) PassesOwn.looking).run [] s σ H D (I.toTry _) h) (fun f s1 z => ?_) (fun _ _ z => z)
  · obtain ⟨a, B, sI, pins', σ', H', cls, d, rfl, J', gr, up, sky, na, os, ag, w⟩ := xx
    have sky' : Sky B (X.env :: X.outer) a (Zc cls d) X.env.locals s'.heap := by rw [← hs]; exact sky
    show wpAny (model X.prog X.w) X.A (noteFrame (.ref a) X.env) _ _ _
    exact Sky.land Zc.steady hfr hf sky' fun h3 fl3 up3 => handlers_ok (E0 := I.ok) hs hf hN tk hh ⟨J'.ofTry I.ok, gr, up.trans up3, fl3, na, os, ag⟩ w
  · cases f with
    | ret u =>
      obtain ⟨v, σ', H', J', r, q⟩ := z
      exact ⟨v, σ', H', J'.ofTry I.ok, r, q⟩
    | next =>
      obtain ⟨σ', H', J', q⟩ := z
      exact wpAny_execs_nil ⟨σ', H', J'.ofTry I.ok, q⟩
    | brk =>
      obtain ⟨σ', H', J', q⟩ := z
      exact ⟨σ', H', J'.ofTry I.ok, q⟩
    | cont =>
      obtain ⟨σ', H', J', q⟩ := z
      exact ⟨σ', H', J'.ofTry I.ok, q⟩
end
end SD

set_option Elab.async false
set_option linter.all false
set_option maxRecDepth 100000
set_option maxHeartbeats 4000000
namespace SD
open PySem PySem.Spec PyProof.Rows L2
/-- a clause: the class's name, the slot of its name, what its suite does with the exception -/
structure Clause where
  name : Str
  slot : Option Nat
  act : Exn → Env → Mem → SRes
def noXS (r : SRes) : SRes := match r with
  | .exn _ _ _ => .stuck
  | r => r
def unslot (i : Nat) (r : SRes) : SRes := match r with
  | .nx ρ M => .nx (ρ.set i none) M
  | .bk ρ M => .bk (ρ.set i none) M
  | .ct ρ M => .ct (ρ.set i none) M
  | r => r
def handle (exm : Str → Str → Option Bool) : List Clause → Exn → Env → Mem → SRes
  | [], x, ρ, M => .exn x ρ M
  | c :: r, x, ρ, M => match exm x.name c.name with
    | some true => match c.slot with
      | none => noXS (c.act x ρ M)
      | some i => if i < ρ.length then unslot i (noXS (c.act x (ρ.set i none) M)) else .stuck
    | some false => handle exm r x ρ M
    | none => .stuck
def fTry (exm : Str → Str → Option Bool) (body : Env → Mem → SRes) (cs : List Clause) : Env → Mem → SRes := fun ρ M => match body ρ M with
  | .exn x ρ' M' => handle exm cs x ρ' M'
  | r => r
def slotFix : Option Nat → List Nat
  | none => []
  | some i => [i]
/-- the suite of a clause: what it knows of the exception at a, its class cls, its dict d -/
def suiteS (K : PySem.W.Frag) (S : Side) (a : Addr) (cls : Value) (d : Option Addr) (x : Exn) (i : Option Nat) : Side where
  Tb := S.Tb
  fix := slotFix i ++ S.fix
  J := fun H μ ν σ => S.J H μ ν σ ∧ (∀ k, i = some k → σ[k]? = some (some (.ref a))) ∧ RX K H μ x cls d
  st := fun h e => ⟨S.st h.1 e, h.2.1, h.2.2.ext e⟩
  mv := fun {H μ ν σ σ'} h k => ⟨S.mv h.1 fun j hj => k j (List.mem_append_right _ hj), fun m e => by
    subst e
    rw [k m (by simp [slotFix])]
    exact h.2.1 m rfl, h.2.2⟩
section
variable {X : Cx} {S : Side} {W : WX} {body : List Stmt} {hd : ExceptHandler} {hds : List ExceptHandler} {pos : Pos} {g : Env → Mem → SRes} {cs : List Clause} {exm : Str → Str → Option Bool}
def clTs (K : PySem.W.Frag) (S : Side) (c : Clause) : Addr → Value → Option Addr → TS := fun a cls d D σ H => ∃ x : Exn, TSc K (suiteS K S a cls d x c.slot) WF (c.act x) D σ H
def clOf (K : PySem.W.Frag) (S : Side) (c : Clause) : Cl := ⟨.ref (He.ga K c.name), c.slot, clTs K S c⟩
inductive CsOk (X : Cx) (S : Side) : List ExceptHandler → List Clause → Prop
  | nil : CsOk X S [] []
  | bare {cn : Str} {act : Exn → Env → Mem → SRes} {st : Stmt} {suite : List Stmt} {np hp : Pos} {hs : List ExceptHandler} {l : List Clause} (nm : Names X cn (.ref (He.ga X.K cn)))
      (ok : ∀ (x : Exn) (a : Addr) (oe : Obj) (cls : Value) (d : Option Addr) (pn : List (Addr × Obj)), Zc cls d oe → (∃ vs, oe.data = .fields vs) → PSs (X.suite a ((a, oe) :: pn)) (st :: suite) (TSc X.K (suiteS X.K S a cls d x none) WF (act x))) (rest : CsOk X S hs l) :
      CsOk X S (.ExceptHandler (some (.Name cn np)) none (st :: suite) hp :: hs) (⟨cn, none, act⟩ :: l)
  | named {cn n : Str} {i : Nat} {act : Exn → Env → Mem → SRes} {st : Stmt} {suite : List Stmt} {np hp : Pos} {hs : List ExceptHandler} {l : List Clause} (nm : Names X cn (.ref (He.ga X.K cn))) (hfx : i ∉ S.fix) (hi : X.N[i]? = some n) (hl : X.env.kindOf n = some .local)
      (ok : ∀ (x : Exn) (a : Addr) (oe : Obj) (cls : Value) (d : Option Addr) (pn : List (Addr × Obj)), Zc cls d oe → (∃ vs, oe.data = .fields vs) → PSs (X.suite a ((a, oe) :: pn)) (st :: suite) (TSc X.K (suiteS X.K S a cls d x (some i)) WF (act x))) (rest : CsOk X S hs l) :
      CsOk X S (.ExceptHandler (some (.Name cn np)) (some n) (st :: suite) hp :: hs) (⟨cn, some i, act⟩ :: l)
theorem CsOk.cl {hs : List ExceptHandler} {l : List Clause} (h : CsOk X S hs l) : ClOk X hs (l.map (clOf X.K S)) := by
  induction h with
  | nil => exact .nil
  | bare nm ok rest ih =>
    refine .bare nm (fun a oe cls d pn hz hf => ⟨fun pins s σ H D I q => ?_⟩) ih
    obtain ⟨x, q⟩ := q
    exact (ok x a oe cls d pn hz hf).run pins s σ H D I q
  | named nm hfx hi hl ok rest ih =>
    refine .named nm hi hl (fun a oe cls d pn hz hf => ⟨fun pins s σ H D I q => ?_⟩) ih
    obtain ⟨x, q⟩ := q
    exact (ok x a oe cls d pn hz hf).run pins s σ H D I q
theorem CsOk.fix {hs : List ExceptHandler} {l : List Clause} (h : CsOk X S hs l) : ∀ c ∈ l, ∀ i, c.slot = some i → i ∉ S.fix := by
  induction h with
  | nil => exact fun c z => absurd z (by simp)
  | bare nm ok rest ih =>
    intro d hd i e
    rcases List.mem_cons.mp hd with z | z
    · subst z; cases e
    · exact ih d z i e
  | named nm hfx hi hl ok rest ih =>
    intro d hd j e
    rcases List.mem_cons.mp hd with z | z
    · subst z; cases e; exact hfx
    · exact ih d z j e
theorem noXS_ok {K : PySem.W.Frag} {S S' : Side} {ν : List Addr} {σ : L2.St} {H : Hp} {μ : List Addr} {E : Ends} {r : SRes} (ht : S'.Tb = S.Tb) (hf : S'.fix = S.fix) (h : OkS K S W ν σ H μ E (noXS r)) : OkS K S' WF ν σ H μ E r := by
  cases r <;> first | exact False.elim h | (unfold OkS; rw [ht]; try rw [hf]; exact h)
theorem unslot_ok {K : PySem.W.Frag} {S S' : Side} {ν : List Addr} {σ : L2.St} {v : Option V} {H : Hp} {μ : List Addr} {E : Ends} {i : Nat} {r : SRes} (ht : S'.Tb = S.Tb) (hf : S'.fix = i :: S.fix) (hi : i ∉ S.fix) (h : OkS K S W ν σ H μ E (unslot i (noXS r))) : OkS K S' WF ν (σ.set i v) H μ (gone i E) r := by
  have kk : ∀ {σ' : L2.St}, Kp S'.fix (σ.set i v) σ' → Kp S.fix σ (σ'.set i none) := fun {σ'} k => (Kp.set hi).trans (Kp.trans (fun j hj => k j (by rw [hf]; exact List.mem_cons_of_mem _ hj)) (Kp.set hi))
  cases r with
  | nx ρ M => exact fun σ' H' μ' x k e s => h (σ'.set i none) H' μ' x (kk k) (e.unset i) (ht ▸ s)
  | bk ρ M => exact fun σ' H' μ' x k e s => h (σ'.set i none) H' μ' x (kk k) (e.unset i) (ht ▸ s)
  | ct ρ M => exact fun σ' H' μ' x k e s => h (σ'.set i none) H' μ' x (kk k) (e.unset i) (ht ▸ s)
  | rt d M => exact fun v H' μ' x e s => h v H' μ' x e (ht ▸ s)
  | exn x ρ M => exact False.elim h
  | stuck => exact h
theorem handle_ok {K : PySem.W.Frag} (hexm : ∀ x c b, exm x c = some b → PySem.W.exmOne K (.ref (He.ga K x)) (.ref (He.ga K c)) = some b) {E : Ends} {x : Exn} {ρ : Env} {M : Mem} {ν : List Addr} {H : Hp} {μ : List Addr} {cls : Value} {d : Option Addr} {σ : L2.St} (j : S.J H μ ν σ) (e : REnv K H μ ν ρ σ) (rx : RX K H μ x cls d) (s : SR K S.Tb H μ ν M) :
    ∀ cs : List Clause, (∀ c ∈ cs, ∀ i, c.slot = some i → i ∉ S.fix) → OkS K S W ν σ H μ E (handle exm cs x ρ M) → wCl K W E (cs.map (clOf K S)) cls d σ H
  | [], _, o => o cls d σ H μ (Ext.refl _ _) .refl e rx s
  | c :: r, hF, o => by
    unfold handle at o
    cases q : exm x.name c.name with
    | none => rw [q] at o; exact o.elim
    | some b =>
      rw [q] at o
      refine ⟨b, by rw [rx.1]; exact hexm _ _ _ q, fun hb a ha => ?_, fun hb => ?_⟩
      · subst hb
        simp only at o
        unfold Cl.take clOf
        cases hn : c.slot with
        | none =>
          rw [hn] at o
          simp only [hn]
          exact ⟨x, ρ, μ, ν, M, ⟨j, (fun k z => by rw [hn] at z; cases z), rx⟩, e, s, noXS_ok (S := S) rfl (by show slotFix c.slot ++ S.fix = S.fix; rw [hn]; rfl) o⟩
        | some i =>
          rw [hn] at o
          simp only [hn]
          simp only at o
          have hfx := hF c List.mem_cons_self i hn
          by_cases hi : i < ρ.length
          · rw [if_pos hi] at o
            refine ⟨x, ρ.set i none, μ, ν, M, ⟨S.mv j (Kp.set hfx), fun k z => ?_, rx⟩, ?_, s, unslot_ok (S := S) rfl (by show slotFix c.slot ++ S.fix = i :: S.fix; rw [hn]; rfl) hfx o⟩
            · rw [hn] at z
              cases z
              exact List.getElem?_set_self (e.len ▸ hi)
            · refine ⟨by simp [e.len], fun m d' hm => ?_⟩
              by_cases hmi : i = m
              · subst hmi
                rw [List.getElem?_set_self hi] at hm
                cases hm
              · rw [List.getElem?_set_ne hmi] at hm
                obtain ⟨v, h1, h2⟩ := e.at_ m d' hm
                exact ⟨v, by rw [List.getElem?_set_ne hmi]; exact h1, h2⟩
          · rw [if_neg hi] at o
            exact o.elim
      · subst hb
        exact handle_ok hexm j e rx s r (fun c' h' => hF c' (List.mem_cons_of_mem _ h')) o
theorem c_try (hs : X.stack = X.env :: X.outer) (hf : X.env.frame = some X.env.locals) (hN : X.N.Nodup) (tk : Takes X W) (hexm : ∀ x c b, exm x c = some b → PySem.W.exmOne X.K (.ref (He.ga X.K x)) (.ref (He.ga X.K c)) = some b)
    (hb : ∀ (W : WX) (pn : List (Addr × Obj)) (xe : Value → Shared → Prop), Takes (X.tr pn xe) W → PassesOwn (model X.prog X.w) X.A X.env xe → PSs (X.tr pn xe) body (TSc X.K S W g)) (hh : CsOk X S (hd :: hds) cs) :
    PS X (.Try body (hd :: hds) [] [] pos) (TSc X.K S W (fTry exm g cs)) :=
  (ps_try_cl hs hf hN tk (tb := fun W => TSc X.K S W g) (fun W pn xe tk' pa => hb W pn xe tk' pa) hh.cl).imp fun E σ H q => by
    obtain ⟨ρ, μ, ν, M, j, e, s, o⟩ := q
    refine ⟨ρ, μ, ν, M, j, e, s, ?_⟩
    unfold fTry at o
    cases r : g ρ M with
    | exn x ρ' M' =>
      rw [r] at o
      intro cls d σ' H' μ' x' k e' rx s'
      exact handle_ok hexm (S.mv (S.st j x') k) e' rx s' cs hh.fix (OkS.ext o x' k)
    | nx ρ' M' => rw [r] at o; exact o
    | rt d M' => rw [r] at o; exact o
    | bk ρ' M' => rw [r] at o; exact o
    | ct ρ' M' => rw [r] at o; exact o
    | stuck => rw [r] at o; exact o
/-- the field of a caught exception -/
def fXf (c : Str) (x : Exn) (f : Str) : Env → Mem → Res D := fun _ M => if x.name = c ∧ x.fs ≠ [] then (match x.fs.lookup f with
  | some v => match ofV v with
    | some d => .ok d M
    | none => .stuck
  | none => .stuck) else .stuck
theorem c_xf {a : Addr} {oe : Obj} {cls : Value} {d : Option Addr} {pn : List (Addr × Obj)} {n c f : Str} {i : Nat} {x : Exn} {np p : Pos} (T0 : XfC X.K (He.ga X.K c)) (hno : PySem.W.findIn X.K (.ref (He.ga X.K c)) f = some none) (hz : Zc cls d oe) (hf : ∃ vs, oe.data = .fields vs)
    (hN : X.N[i]? = some n) (hv : Vis X.env.scope n) (hd : (n == ("__debug__" : Str)) = false := by decide) (hcd : (n == ("__classdict__" : Str)) = false := by decide) (hb : attributeBase (.Name n np) f X.env (eval (.Name n np) X.env) = eval (.Name n np) X.env := by rfl) :
    PE (X.suite a ((a, oe) :: pn)) (.Attribute (.Name n np) f p) (T X.K (suiteS X.K S a cls d x (some i)) W (fXf c x f)) :=
  (pe_xf T0 hno hz hf (pe_var (X := X.suite a ((a, oe) :: pn)) (i := i) hN hv hd hcd) hb).imp fun σ H Q h => by
    obtain ⟨ρ, μ, ν, M, j, e, s, o⟩ := h
    unfold fXf at o
    by_cases hx : x.name = c ∧ x.fs ≠ []
    · rw [if_pos hx] at o
      obtain ⟨dd, h1, h2, h3⟩ := j.2.2.2 hx.2
      cases q : x.fs.lookup f with
      | none => rw [q] at o; exact o.elim
      | some v =>
        rw [q] at o
        simp only at o
        cases q2 : ofV v with
        | none => rw [q2] at o; exact o.elim
        | some d' =>
          rw [q2] at o
          exact ⟨.ref a, j.2.1 i rfl, rfl, by rw [← hx.1]; exact j.2.2.1, dd, x.fs, v, h1, h2, q, Ok.flat o (ofV_R q2) s⟩
    · rw [if_neg hx] at o
      exact o.elim
end
/-! ### a lambda without parameters -/
theorem ext_of_extN {H H' : Hp} {μ : List Addr} (e : LamX.ExtN H H') : Ext H μ H' μ where
  ids := ⟨[], by simp⟩
  keep := fun a o h n t => ⟨e a o h t, n⟩
  som := fun a n o h => by
    by_cases z : ∃ ps, o = .tbl ps
    · exact z
    · exact n o (e a o h fun ps q => z ⟨ps, q⟩)
theorem SR.extN {K : PySem.W.Frag} {Tb : List (Addr × Str)} {H H' : Hp} {μ ν : List Addr} {M : Mem} (s : SR K Tb H μ ν M) (e : LamX.ExtN H H') (t : LamX.Tabs Tb H') : SR K Tb H' μ ν M where
  len := s.len
  nd := s.nd
  at_ := fun n a o h1 h2 => by
    have q := s.at_ n a o h1 h2
    cases o with
    | lst ds =>
      obtain ⟨vs, h, r⟩ := q
      exact ⟨vs, e _ _ h (fun ps z => by cases z), r.ext (ext_of_extN e)⟩
  res := fun a z => ⟨fun n => (s.res a z).1 ((ext_of_extN (μ := μ) e).som a n), (s.res a z).2⟩
  tab := t
section
variable {X : Cx} {pins : List (Addr × Obj)} {σ : L2.St} {H HZ : Hp} {s s1 : Shared} {A : Around} {outer : List PySem.Env} {params : Arguments} {body : Expr} {scope : Scope} {f c' : Addr} {pm ctv : Value} {k : Nat} {E : XK} {Q : VK} {tb : TE}
abbrev lamO (X : Cx) (params : Arguments) (body : Expr) (scope : Scope) (pm : Value) (c' : Addr) (ctv : Value) : Obj :=
  PySem.W.kla_obj "<lambda>" (X.env.qual ++ "<lambda>") params body scope (cloFrom X.env.cells scope.names []) pm c' ctv
/-- its call, from wherever: I is the state of the frame that made it, s1 the state at the call -/
theorem lam_run (I : L2.Inv X pins σ H s) (L : LamX.LamS X.env.scope scope) (e0 : Env0 X.prog X.w X.K X.mg X.base A outer s1 HZ) (hr : Room (k + 1) A) (un : Un (frs X.stack) [] H HZ s.heap s1.heap) (of1 : s1.heap.get? f = some (lamO X params body scope pm c' ctv))
    (hc : HZ c' = some (LamX.CodeO c' (X.env.qual ++ "<lambda>"))) (hbind : bindArgs (PySem.W.kla_fn "<lambda>" (X.env.qual ++ "<lambda>") params body scope (cloFrom X.env.cells scope.names []) pm (.ref c') ctv) ⟨[], []⟩ = pure [])
    (hbody : Room k (A.deeper (LamX.lamEnv X scope s1.heap.objs.size f c')) → PE (LamX.lamCx X A outer s1 HZ E scope f c') body tb) (ht : tb σ HZ Q) :
    codeAny (model X.prog X.w) A (.call (.ref f) ⟨[], []⟩) (CR (L2.CX X.prog X.w) outer X.prog X.w HZ s1 Q E) s1 := by
  obtain ⟨⟨oc, vs, t, hoc, hdc, hvc⟩, _, _⟩ := e0.hok c' _ hc
  have lim : s1.heap.NoLimit := e0.mod.nolimit.keeps fun b o e => (e0.bs b o e).1
  refine PySem.W.kla_callFunE hr.depth of1 rfl L.co L.gen rfl ⟨c', oc, vs, t, rfl, hoc, hdc, hvc⟩ ?_
  rw [hbind]
  refine wpAny_pure (wpAny_newFunctionEnv (fun y hy => (L.own y hy).2) (fun y hy => absurd hy (by simp)) (fun h₁ hns hsb => ⟨lim.fresh _ hsb, ?_⟩) L.kind)
  have kp : ∀ b o, s1.heap.get? b = some o → h₁.get? b = some o := fun b o e => hsb.extBut b o (Nat.ne_of_lt (Heap.lt_size e)) (Heap.get?_push_of_some _ e)
  have J := LamX.lam_start2 (f := f) (c' := c') (tk := s1.toks + ([] : List (Str × Value)).length) (E := E) I L e0 hr.hd un hns kp
  refine PySem.W.kla_codeExpr (wpAny_mono ((hbody (hr.deeper _)).run [] _ _ HZ Q J ht) (fun v s' hq => ?_) fun e s' hq => hq)
  obtain ⟨w', H', J', rv, q⟩ := hq
  exact ⟨w', H', J'.os, J'.bare, J'.base, J'.hok, rv, q⟩
end
/-- the def that got it: where it began, at which store -/
def toldS (Tb : List (Addr × Str)) (H0 : Hp) (μ0 ν0 : List Addr) (f c' : Addr) (q : Str) : Side where
  Tb := Tb
  fix := [0]
  J := fun H μ ν σ => Ext H0 μ0 H μ ∧ ν = ν0 ∧ σ[0]? = some (some (V.ref f)) ∧ H c' = some (LamX.CodeO c' q) ∧ c' ∉ μ
  st := fun h e => by
    obtain ⟨h1, h2, h3, h4, h5⟩ := h
    obtain ⟨k1, k2⟩ := e.keep _ _ h4 h5 (fun ps z => by unfold LamX.CodeO at z; cases z)
    exact ⟨h1.trans e, h2, h3, k1, k2⟩
  mv := fun {H μ ν σ σ'} h k => ⟨h.1, h.2.1, (k 0 (by simp)).trans h.2.2.1, h.2.2.2⟩
/-- the call of the parameter (slot 0) -/
def fAct (act : Mem → Res D) : Env → Mem → Res D := fun _ M => act M
def runAct (n : Nat) (g : (Mem → Res D) → Env → Mem → SRes) (act : Mem → Res D) : Mem → Res D := fun M => match g act (List.replicate n none) M with
  | .nx _ M' => .ok .non M'
  | .rt d M' => .ok d M'
  | _ => .stuck
section
variable {X : Cx} {S : Side} {W : WX}
/-- what a def must be that is handed a lambda: its body with the parameter's call for act -/
def Gives (X : Cx) (Tb : List (Addr × Str)) (Ng : List Str) (x : Str) (sg : Scope) (g : Addr) (cdg : Value) (bg : List Stmt) (a : Str) (gt : (Mem → Res D) → Env → Mem → SRes) : Prop :=
  ∀ (act : Mem → Res D) (s : Shared) (H H0 : Hp) (μ ν : List Addr) (f c' : Addr) (q : Str),
    (∀ (W : WX) (pn : List (Addr × Obj)) (xe : Value → Shared → Prop) (p1 p2 : Pos), Takes ((cxOf C8.CX0 X.prog X.w X.K X.mg X.base Ng x sg g cdg X.A X.stack s H C8.E0).tr pn xe) W →
      PE ((cxOf C8.CX0 X.prog X.w X.K X.mg X.base Ng x sg g cdg X.A X.stack s H C8.E0).tr pn xe) (.Call (.Name a p1) [] [] p2) (T X.K (toldS Tb H0 μ ν f c' q) W (fAct act))) →
    PSs (cxOf C8.CX0 X.prog X.w X.K X.mg X.base Ng x sg g cdg X.A X.stack s H C8.E0).nox bg (TSc X.K (toldS Tb H0 μ ν f c' q) WF (gt act))
theorem c_told {f0 : Env → Mem → Res D} {x a : Str} {g c P : Addr} {k : Nat} {pg : Arguments} {bg : List Stmt} {sg : Scope} {dV kV doc pm cdv ct oc : Value} {an od : Option Addr} {osl : Array (Option Value)} {Ng : List Str} {gt : (Mem → Res D) → Env → Mem → SRes}
    {params : Arguments} {body : Expr} {scope : Scope} {p lpos pos : Pos} (hg : Gl X x) (hm : X.mg x = some (.ref g)) (hk : PySem.W.keepIn X.K (.ref g) = true)
    (lk : X.K.lookup g = some ⟨oc, od, .func (PySem.W.fnOf x x pg bg sg dV kV doc pm an cdv ct), osl⟩) (hcg : PySem.W.codeIn X.K cdv x = true) (hb : L2.Binds X.K (PySem.W.fnOf x x pg bg sg dV kV doc pm an cdv ct) [a] []) (Sg : FnScope Ng [a] sg) (hNg : Ng[0]? = some a) (hva : Vis sg a)
    (hG : Gives X S.Tb Ng x sg g cdv bg a gt) (TB : LamX.TabB X.base X.mg c P) (hcode : X.env.code = .ref c) (hmT : (P, X.env.qual ++ "<lambda>") ∈ S.Tb) (hu : ∀ p ∈ S.Tb, p.1 = P → p.2 = X.env.qual ++ "<lambda>") (hr : Room (k + 2) X.A) (L : LamX.LamS X.env.scope scope)
    (hdef : defaultsOf params X.env = ([], [])) (hbind : ∀ (q : Str) (cl : List (Str × Addr)) (pm cv ctv : Value), bindArgs (PySem.W.kla_fn "<lambda>" q params body scope cl pm cv ctv) ⟨[], []⟩ = pure [])
    (hbody : ∀ (A : Around) (outer : List PySem.Env) (s : Shared) (H : Hp) (E : XK) (f c' : Addr), Room k (A.deeper (LamX.lamEnv X scope s.heap.objs.size f c')) → PE (LamX.lamCx X A outer s H E scope f c') body (T X.K (plainS S.Tb) (WX0 E) f0))
    (hdb : (x == ("__debug__" : Str)) = false := by decide) (hd : (a == ("__debug__" : Str)) = false := by decide) (hcd : (a == ("__classdict__" : Str)) = false := by decide) :
    PE X (.Call (.Name x p) [.Lambda params body scope lpos] [] pos) (T X.K S W fun ρ M => runAct Ng.length gt (f0 ρ) M) := by
  refine ⟨fun pins s σ H Q I h => ?_⟩
  obtain ⟨ρ, μ, ν, M, j, e, sr, o⟩ := h
  refine wpAny_Call_Name_kw (ld_glob I hg hm ?_ hdb)
  refine PySem.W.callWith_K (h₀ := X.base) I.ok.mod.kin hk ?_ (by rfl) (by rfl)
  show wpAny _ _ (spliced ((false, eval (.Lambda params body scope lpos) X.env) :: backTo pos (starEach [] X.env))) _ _ s
  refine Calls.spliced_cons (LamX.lam_make2 I TB hcode hmT hu sr.tab hdef (L.has I.ok) fun f c' pm' ctv H1 s' I1 eN T1 hf hfn hfr hco => ?_)
  refine Calls.spliced_nil ⟨I1.kIn, ?_⟩
  have x1 : Ext H μ H1 μ := ext_of_extN eN
  have sr1 := sr.extN eN T1
  have e1 := e.ext x1
  have o1 := Ok.ext (r := runAct Ng.length gt (f0 ρ) M) o x1
  have hcm : c' ∉ μ := fun z => by
    obtain ⟨vs, q⟩ := sr1.mem z
    rw [hco] at q
    unfold LamX.CodeO at q
    cases q
  have rc : codeAny (model X.prog X.w) X.A (.call (.ref g) ⟨[.ref f], []⟩) (CR C8.CX0 X.stack X.prog X.w H1 s' Q C8.E0) s' := by
    refine LamX.run_ofS (N := Ng) (ps := [a]) (us := [.ref f]) (vs := [.ref f]) lk hcg Sg hr I1.env0 (hb s' [.ref f] I1.kIn rfl) (.cons rfl .nil) rfl fun hr' => ?_
    refine ⟨_, (hG (f0 ρ) s' H1 H1 μ ν f c' (X.env.qual ++ "<lambda>") fun W' pn xe p1 p2 tk => ⟨fun pinsZ sZ σZ HZ QZ IZ hZ => ?_⟩).nox, ?_⟩
    · obtain ⟨ρZ, μZ, νZ, MZ, ⟨jx, jn, js, jc, _⟩, eZ, srZ, oZ⟩ := hZ
      rw [jn] at srZ oZ
      refine wpAny_Call_Name_kw (thn ((pe_var (pos := p1) (i := 0) hNg hva hd hcd).run pinsZ sZ σZ HZ (fun v H1 => v = .ref f ∧ H1 = HZ) IZ ⟨.ref f, js, rfl, rfl⟩) fun u s1 ⟨v, H2, I2, r1, q1⟩ => ?_)
      obtain ⟨ev, eH⟩ := q1
      subst ev
      rw [eH] at I2
      obtain rfl : u = Value.ref f := r1
      have of1 : s1.heap.get? f = some (lamO X params body scope pm' c' ctv) := I2.base.keep f _ hf hfn hfr (fun z => nomatch (show f ∈ ([] : List Addr) from z))
      refine PySem.W.callWith_F0 ⟨_, _, _, _, of1⟩ ?_
      have rc := lam_run (E := WE W' σZ) (tb := T X.K (plainS S.Tb) (WX0 (WE W' σZ)) f0) (Q := QZ) I1 L I2.env0 hr' (show Un (frs X.stack) [] H1 HZ s'.heap s1.heap from I2.base) of1 jc (hbind _ _ _ _ _) (fun hr2 => hbody _ _ _ _ _ _ _ hr2) ⟨ρ, μZ, ν, MZ, trivial, e1.ext jx, srZ, by
        unfold fAct at oZ
        cases z : f0 ρ MZ with
        | ok d M' => rw [z] at oZ; exact oZ
        | exn x M' => rw [z] at oZ; exact oZ
        | stuck => rw [z] at oZ; exact oZ⟩
      refine wpAny_call (codeAny_mono rc fun r s2 hq => ?_)
      cases r with
      | error z => exact passAt tk σZ pinsZ HZ s1 z s2 I2 hq
      | ok fl =>
        cases fl with
        | ret u => exact I2.after hq
        | next => exact False.elim hq
        | brk => exact False.elim hq
        | cont => exact False.elim hq
    · refine ⟨List.replicate Ng.length none, μ, ν, M, ⟨.refl _ _, rfl, ?_, hco, hcm⟩, ?_, sr1, ?_⟩
      · cases Ng with
        | nil => cases hNg
        | cons a l => rfl
      · refine ⟨?_, fun i d h => ?_⟩
        · cases Ng with
          | nil => cases hNg
          | cons a l => simp [L2.start]
        · rw [List.getElem?_replicate] at h
          split at h <;> cases h
      · unfold runAct at o1
        cases z : gt (f0 ρ) (List.replicate Ng.length none) M with
        | nx ρ' M' => rw [z] at o1; exact fun σ' H' μ' e _ _ s' => o1 .non H' μ' e .non s'
        | rt d M' => rw [z] at o1; exact o1
        | bk ρ' M' => rw [z] at o1; exact o1.elim
        | ct ρ' M' => rw [z] at o1; exact o1.elim
        | exn x ρ' M' => rw [z] at o1; exact o1.elim
        | stuck => rw [z] at o1; exact o1.elim
  refine wpAny_call (codeAny_mono rc fun r s2 hq => ?_)
  cases r with
  | error z => exact (show False from hq).elim
  | ok fl =>
    cases fl with
    | ret u => exact I1.after hq
    | next => exact False.elim hq
    | brk => exact False.elim hq
    | cont => exact False.elim hq
end
end SD

set_option Elab.async false
set_option linter.all false
set_option maxRecDepth 100000
set_option maxHeartbeats 4000000
namespace SD
open PySem PySem.Spec PyProof.Rows L2
/-! ### times -/
theorem tuple_mul1 (l : Addr) (items : Array Value) (n : Nat) (sl : Array (Option Value)) (dd : Option Addr) (x : Int) (u : Tok) (c0 : (decide (x < -(2 ^ 63)) || decide (x ≥ 2 ^ 63)) = false) (c1 : (items.isEmpty || x == 1) = true) :
    Meets (Builtin.«tuple.__mul__» ⟨[.ref l, .int x u], []⟩) (fun _ R s => s.heap.get? l = some { cls := .type "tuple", dict := dd, data := .seq items n, slots := sl } ∧
      R (.ok (.ret (Value.ref l))) s) :=
  .of_wp fun prog w A R s h => by
    obtain ⟨hp, g, d, tk, os⟩ := s
    obtain ⟨hl, h⟩ := h
    have f1 := AutoSeq1.idx_int
    wp_walk using wpAny_loadPart' hl
    repeat (first
      | (refine wpAny_ite_false (decide_eq_false (by rw [c0]; exact Bool.false_ne_true)) ?_; wp_walk using wpAny_loadPart' hl)
      | (refine wpAny_ite_true (decide_eq_true (by rw [c1])) ?_; wp_walk using wpAny_loadPart' hl))
    exact ⟨_, rfl, h⟩
def rRep1 (K : PySem.W.Frag) : R2 := fun x y H Q => ∃ l k xs, x = .ref l ∧ y = .int k ∧ SqT K H l xs ∧ (xs = [] ∨ k = 1) ∧ 0 ≤ k ∧ k ≤ 1000 ∧ Q (.ref l) H
theorem op_rep1 {X : Cx} : OpR X (binaryOp .Mult) (rRep1 X.K) := by
  intro pins s σ H x y v u Q I rx ry h
  obtain ⟨l, k, xs, rfl, rfl, hT, hne, h1, h2, q⟩ := h
  cases rx
  obtain ⟨t, rfl⟩ := ry
  obtain ⟨its, r, ⟨⟨cls, dd, data, sl⟩, ho, hc, n, hd⟩, hs⟩ := I.tuple hT
  simp only at hc hd
  subst hc hd
  have c0 : (decide (k < -(2 ^ 63)) || decide (k ≥ 2 ^ 63)) = false := by
    rw [decide_eq_false (by omega), decide_eq_false (by omega)] <;> rfl
  have c1 : (its.toArray.isEmpty || k == 1) = true := by
    rcases hne with z | z
    · subst z
      cases r
      rfl
    · subst z
      simp
  refine wpAny_binaryOp_repeat_ref (T := "tuple") (U := "int") (by decide) ⟨_, ho, rfl⟩ (fun s' => typeIs_int s' k t) noFill_tuple_mul F.fills_int_mul F.slot_int_rmul repeat_tuple F.slot_int_index.lookup
    (call_meets F.slot_int_rmul (typeIs_int s k t) F.entry_int_rmul (F.args_int_rmul_2 _ _) (int_rmul_tuple k t l its.toArray n dd sl)
      ⟨ho, rfl, ⟨_, ho, rfl⟩, call_meets F.slot_tuple_mul ⟨_, ho, rfl⟩ F.entry_tuple_mul (F.args_tuple_mul_2 _ _) (tuple_mul1 l its.toArray n sl dd k t c0 c1) ⟨ho, ?_⟩⟩)
  exact ⟨.ref l, H, I, rfl, q⟩
section
variable {X : Cx} {S : Side} {W : WX} {a b c e : Expr} {fa fb f : Env → Mem → Res D} {pos p : Pos} {es : List Expr} {fs : Env → Mem → Res (List D)} {x : Str}
def gMul : D → D → Mem → Res D := fun d e M => match d, e with
  | .int i, .int j => if (-(2 ^ 64) < i ∧ i < 2 ^ 64) ∨ (-(2 ^ 64) < j ∧ j < 2 ^ 64) then .ok (.int (i * j)) M else .stuck
  | .tup ds, .int k => if 0 ≤ k ∧ k ≤ 1000 then (if ds = [] ∨ k = 1 then .ok (.tup ds) M else if 2 ≤ k ∧ ds.length ≤ 1000 then .ok (.tup (List.replicate k.toNat ds).flatten) M else .stuck) else .stuck
  | d, .int k => match lstOf M d with
    | some ds => if 0 ≤ k ∧ k ≤ 1000 ∧ ds.length ≤ 1000 then .ok (.lst (List.replicate k.toNat ds).flatten) M else .stuck
    | none => .stuck
  | _, _ => .stuck
theorem lst_mul {K Tb H μ ν M W σ Q} {d : D} {k : Int} {x : V} (rd : R K H μ ν d x) (s : SR K Tb H μ ν M)
    (o : Ok K Tb W σ ν (rD K) H μ Q (match lstOf M d with
      | some ds => if 0 ≤ k ∧ k ≤ 1000 ∧ ds.length ≤ 1000 then .ok (.lst (List.replicate k.toNat ds).flatten) M else .stuck
      | none => .stuck)) : rRep x (.int k) H Q := by
  cases hd : lstOf M d with
  | none => simp only [hd] at o; exact o.elim
  | some ds =>
    simp only [hd] at o
    by_cases hl : 0 ≤ k ∧ k ≤ 1000 ∧ ds.length ≤ 1000
    · rw [if_pos hl] at o
      obtain ⟨a, vs, rfl, h1, h2⟩ := lstOf_at rd s hd
      refine ⟨a, k, vs, rfl, rfl, h1, by omega, by omega, ?_, fun p hp => o.newLst (h2.rep _) s hp⟩
      rw [← h2.length, sizeLine_eq]
      have a1 : ds.length * k.toNat ≤ 1000 * 1000 := Nat.mul_le_mul hl.2.2 (by omega)
      omega
    · rw [if_neg hl] at o
      exact o.elim
theorem c_mul_op : OpR X (binaryOp .Mult) (rC2 X.K S.Tb gMul) := by
  refine OpR.imp (OpR.or op_mul (OpR.or op_rep1 (OpR.or op_repT op_rep))) fun x y H Q h => ?_
  obtain ⟨W, σ, d, e, μ, ν, M, rd, re, s, o⟩ := h
  have rd0 := rd
  cases re with
  | int k =>
    cases rd with
    | int i =>
      have o : Ok X.K S.Tb W σ ν (rD X.K) H μ Q (if (-(2 ^ 64) < i ∧ i < 2 ^ 64) ∨ (-(2 ^ 64) < k ∧ k < 2 ^ 64) then .ok (.int (i * k)) M else .stuck) := o
      by_cases hl : (-(2 ^ 64) < i ∧ i < 2 ^ 64) ∨ (-(2 ^ 64) < k ∧ k < 2 ^ 64)
      · rw [if_pos hl] at o
        exact .inl ⟨i, k, rfl, rfl, hl, o.flat (.int _) s⟩
      · rw [if_neg hl] at o
        exact o.elim
    | tup h1 h2 =>
      rename_i a vs ds
      have o : Ok X.K S.Tb W σ ν (rD X.K) H μ Q (if 0 ≤ k ∧ k ≤ 1000 then (if ds = [] ∨ k = 1 then .ok (.tup ds) M else if 2 ≤ k ∧ ds.length ≤ 1000 then .ok (.tup (List.replicate k.toNat ds).flatten) M else .stuck) else .stuck) := o
      by_cases hk : 0 ≤ k ∧ k ≤ 1000
      · rw [if_pos hk] at o
        by_cases h : ds = [] ∨ k = 1
        · rw [if_pos h] at o
          refine .inr (.inl ⟨a, k, vs, rfl, rfl, h1.seq, ?_, hk.1, hk.2, o.flat (.tup h1 h2) s⟩)
          rcases h with h | h
          · subst h
            cases h2
            exact .inl rfl
          · exact .inr h
        · rw [if_neg h] at o
          by_cases h' : 2 ≤ k ∧ ds.length ≤ 1000
          · rw [if_pos h'] at o
            refine .inr (.inr (.inl ⟨a, k, vs, rfl, rfl, h1.seq, fun z => ?_, h'.1, hk.2, by rw [← h2.length]; exact h'.2, fun p hp => o.newTup (h2.rep _) s hp⟩))
            subst z
            cases h2
            exact h (.inl rfl)
          · rw [if_neg h'] at o
            exact o.elim
      · rw [if_neg hk] at o
        exact o.elim
    | _ => exact .inr (.inr (.inr (lst_mul rd0 s o)))
  | _ => cases rd <;> exact o.elim
/-! ### append, pop -/
def gAppend : D → D → Mem → Res D := fun d e M => match d with
  | .ref n => match M[n]? with
    | some (.lst ds) => if ds.length < line then .ok .non (M.set n (.lst (ds ++ [e]))) else .stuck
    | none => .stuck
  | _ => .stuck
def gPop : D → Mem → Res D := fun d M => match d with
  | .ref n => match M[n]? with
    | some (.lst ds) => match ds[ds.length - 1]? with
      | some x => .ok x (M.set n (.lst ds.dropLast))
      | none => .stuck
    | none => .stuck
  | _ => .stuck
def gPopAt : D → D → Mem → Res D := fun d e M => match d, e with
  | .ref n, .int i => match M[n]? with
    | some (.lst ds) => if 0 ≤ i ∧ i < 2 ^ 63 then match ds[i.toNat]? with
        | some x => .ok x (M.set n (.lst (ds.eraseIdx i.toNat)))
        | none => .stuck
      else .stuck
    | none => .stuck
  | _, _ => .stuck
/-- a method of one argument on an object of the store -/
def fM1 (g : D → D → Mem → Res D) (f fa : Env → Mem → Res D) : Env → Mem → Res D := fun ρ M => (f ρ M).bind fun d M1 => match d with
  | .ref _ => (fa ρ M1).bind fun e M2 => g d e M2
  | _ => .stuck
def fM0 (g : D → Mem → Res D) (f : Env → Mem → Res D) : Env → Mem → Res D := fun ρ M => (f ρ M).bind fun d M1 => match d with
  | .ref _ => g d M1
  | _ => .stuck
theorem ref_list {K Tb H μ ν M} {n : Nat} {x : V} (r : R K H μ ν (.ref n) x) (s : SR K Tb H μ ν M) : tyV K "list" x H := by
  cases r with
  | ref h =>
    rename_i a
    obtain ⟨vs, e⟩ := s.mem (mem_at h)
    exact .inl ⟨rfl, vs, .inl (.inl e)⟩
theorem write_out {K Tb H μ ν M W σ Q} {n : Nat} {a : Addr} {ds : List D} {vs : List V} {d : D} {v : V} (ha : μ[n]? = some a) (s : SR K Tb H μ ν M) (r : Rs K H μ ν ds vs) (rd : R K H μ ν d v) (o : Ok K Tb W σ ν (rD K) H μ Q (.ok d (M.set n (.lst ds)))) : Q v (upd H a (.lst vs)) :=
  o v _ μ (ext_write ha) (rd.ext (ext_write ha)) (s.write ha r)
theorem c_append {aps : Pos} (he : PE X e (T X.K S W f)) (ha : PE X a (T X.K S W fa)) (hbase : attributeBase e "append" X.env (eval e X.env) = eval e X.env := by rfl)
    (hfew : ((backTo pos (starEach [a] X.env)).all (fun x => !x.1) && (backToKw pos (keywordEach [] X.env)).all (fun x => x.1.isSome)
      && decide (([a] : List Expr).length + ([] : List Keyword).length + (if ([] : List Keyword).isEmpty then 0 else 1) < 30)) = true := by rfl)
    (hline : (aps.endLine == pos.line) = true := by rfl) (hs : starEach [a] X.env = (false, eval a X.env) :: starEach [] X.env := by rfl) (hplain : (backTo pos (starEach [] X.env)).any (·.1) = false := by rfl) :
    PE X (.Call (.Attribute e "append" aps) [a] [] pos) (T X.K S W (fM1 gAppend f fa)) :=
  (pe_bm PySem.F.plainAttrs_list PySem.F.slot_list_append (by rfl) mt_append he (pa_cons ha pa_nil hs) hbase hfew hline hs hplain).imp fun σ H Q h =>
    Tg.bind (k := fun ρ d M1 => match d with
      | .ref _ => (fa ρ M1).bind fun e M2 => gAppend d e M2
      | _ => .stuck) h fun ρ μ ν M d x H1 j e s rd o => by
      cases d with
      | ref n =>
        refine ⟨ref_list rd s, ρ, μ, ν, M, j, e, s, Ok.bind o fun y M2 v H2 μ2 x2 ry s2 o2 => ?_⟩
        have rd := rd.ext x2
        cases rd with
        | ref h =>
          rename_i l
          unfold gAppend at o2
          simp only at o2
          cases q : M2[n]? with
          | none => rw [q] at o2; exact o2.elim
          | some u =>
            cases u with
            | lst ds =>
              rw [q] at o2
              simp only at o2
              by_cases hl : ds.length < line
              · rw [if_pos hl] at o2
                obtain ⟨vs, h1, h2⟩ := s2.get h q
                exact ⟨l, vs, v, rfl, rfl, h1, by rw [← h2.length, sizeLine_eq]; exact hl, write_out h s2 (h2.append (.cons ry .nil)) .non o2⟩
              · rw [if_neg hl] at o2
                exact o2.elim
      | _ => exact o.elim
theorem c_pop {aps : Pos} (he : PE X e (T X.K S W f)) (hbase : attributeBase e "pop" X.env (eval e X.env) = eval e X.env := by rfl) (hline : (aps.endLine == pos.line) = true := by rfl) :
    PE X (.Call (.Attribute e "pop" aps) [] [] pos) (T X.K S W (fM0 gPop f)) :=
  (pe_bm0 PySem.F.plainAttrs_list PySem.F.slot_list_pop (by rfl) mt_pop he hbase hline).imp fun σ H Q h =>
    Tg.bind (k := fun ρ d M1 => match d with
      | .ref _ => gPop d M1
      | _ => .stuck) h fun ρ μ ν M d x H1 j e s rd o => by
      cases d with
      | ref n =>
        refine ⟨ref_list rd s, ?_⟩
        cases rd with
        | ref h =>
          rename_i l
          have o2 : Ok X.K S.Tb W σ ν (rD X.K) H1 μ Q (gPop (.ref n) M) := o
          unfold gPop at o2
          simp only at o2
          cases q : M[n]? with
          | none => rw [q] at o2; exact o2.elim
          | some u =>
            cases u with
            | lst ds =>
              rw [q] at o2
              simp only at o2
              cases q2 : ds[ds.length - 1]? with
              | none => rw [q2] at o2; exact o2.elim
              | some y =>
                rw [q2] at o2
                obtain ⟨vs, h1, h2⟩ := s.get h q
                obtain ⟨v, h3, h4⟩ := h2.get q2
                exact ⟨l, vs, v, rfl, rfl, h1, by rw [← h2.length]; exact h3, write_out h s h2.dropLast h4 o2⟩
      | _ => exact o.elim
theorem c_popAt {aps : Pos} (he : PE X e (T X.K S W f)) (ha : PE X a (T X.K S W fa)) (hbase : attributeBase e "pop" X.env (eval e X.env) = eval e X.env := by rfl)
    (hfew : ((backTo pos (starEach [a] X.env)).all (fun x => !x.1) && (backToKw pos (keywordEach [] X.env)).all (fun x => x.1.isSome)
      && decide (([a] : List Expr).length + ([] : List Keyword).length + (if ([] : List Keyword).isEmpty then 0 else 1) < 30)) = true := by rfl)
    (hline : (aps.endLine == pos.line) = true := by rfl) (hs : starEach [a] X.env = (false, eval a X.env) :: starEach [] X.env := by rfl) (hplain : (backTo pos (starEach [] X.env)).any (·.1) = false := by rfl) :
    PE X (.Call (.Attribute e "pop" aps) [a] [] pos) (T X.K S W (fM1 gPopAt f fa)) :=
  (pe_bm PySem.F.plainAttrs_list PySem.F.slot_list_pop (by rfl) mt_popAt he (pa_cons ha pa_nil hs) hbase hfew hline hs hplain).imp fun σ H Q h =>
    Tg.bind (k := fun ρ d M1 => match d with
      | .ref _ => (fa ρ M1).bind fun e M2 => gPopAt d e M2
      | _ => .stuck) h fun ρ μ ν M d x H1 j e s rd o => by
      cases d with
      | ref n =>
        refine ⟨ref_list rd s, ρ, μ, ν, M, j, e, s, Ok.bind o fun y M2 v H2 μ2 x2 ry s2 o2 => ?_⟩
        have rd := rd.ext x2
        cases rd with
        | ref h =>
          rename_i l
          cases ry with
          | int i =>
            unfold gPopAt at o2
            simp only at o2
            cases q : M2[n]? with
            | none => rw [q] at o2; exact o2.elim
            | some u =>
              cases u with
              | lst ds =>
                rw [q] at o2
                simp only at o2
                by_cases hl : 0 ≤ i ∧ i < 2 ^ 63
                · rw [if_pos hl] at o2
                  cases q2 : ds[i.toNat]? with
                  | none => rw [q2] at o2; exact o2.elim
                  | some y =>
                    rw [q2] at o2
                    obtain ⟨vs, h1, h2⟩ := s2.get h q
                    obtain ⟨v, h3, h4⟩ := h2.get q2
                    have hi : i.toNat < vs.length := (List.getElem?_eq_some_iff.mp h3).1
                    refine ⟨l, vs, i, i.toNat, v, rfl, rfl, h1, by omega, hl.2, ?_, h3, write_out h s2 (h2.eraseIdx _) h4 o2⟩
                    unfold seqIndex?
                    simp only
                    have e1 : (if i < 0 then i + (vs.length : Int) else i) = i := if_neg (by omega)
                    rw [e1]
                    rw [if_pos (by simp only [Bool.and_eq_true, decide_eq_true_eq]; omega)]
                · rw [if_neg hl] at o2
                  exact o2.elim
          | _ => exact o2.elim
      | _ => exact o.elim
/-! ### isinstance -/
def tyOf : D → String
  | .non => "NoneType"
  | .bl _ => "bool"
  | .int _ => "int"
  | .str _ => "str"
  | .tup _ => "tuple"
  | .lst _ => "list"
  | .ref _ => "list"
  | .scr _ => "list"
  | .fn _ => "function"
  | .dct _ => "dict"
def isFn : D → Bool
  | .fn _ => true
  | .dct _ => true
  | _ => false
theorem tyOf_ok {K Tb H μ ν M} {d : D} {x : V} (r : R K H μ ν d x) (s : SR K Tb H μ ν M) (hf : isFn d = false) : TyX K H x (.type (tyOf d)) := by
  cases r with
  | fn x => cases hf
  | dct x => cases hf
  | non => exact .base .non
  | bl b => exact .base (.bl b)
  | int b => exact .base (.int b)
  | str b => exact .base (.str b)
  | tup h1 h2 =>
    rcases h1 with ⟨h | ⟨o, h⟩, _⟩ | ⟨o, its, n, h, h', _⟩
    · exact .base (.tup h)
    · exact .fTuple h
    · exact .kTuple h h'
  | lst h1 h2 => exact .base (.lst h1.1)
  | ref h =>
    obtain ⟨vs, e⟩ := s.mem (mem_at h)
    exact .base (.lst e)
  | scr h1 h2 =>
    rcases h1 with ⟨h | ⟨o, h⟩, _⟩ | ⟨o, its, n, h, h', _⟩
    · exact .base (.lst h)
    · exact .base (.frz h)
    · exact .kList h h'
/-- the classes as Python has them -/
def isOne (a b : String) : Bool := a == b || (a == "bool" && b == "int")
def gIsi (ts : List String) : D → Mem → Res D := fun d M => if isFn d = true then .stuck else .ok (.bl (ts.any (isOne (tyOf d)))) M
theorem isi_out {α : Type} {K Tb W σ ν H μ} {rel : Rel D α} {Q : α → Hp → Prop} {ts : List String} {d : D} {M : Mem} (o : Ok K Tb W σ ν rel H μ Q (gIsi ts d M)) : isFn d = false ∧ Ok K Tb W σ ν rel H μ Q (.ok (.bl (ts.any (isOne (tyOf d)))) M) := by
  unfold gIsi at o
  cases q : isFn d with
  | true => rw [if_pos q] at o; exact o.elim
  | false => rw [if_neg (by rw [q]; exact Bool.false_ne_true)] at o; exact ⟨rfl, o⟩
def fGo (g : D → Mem → Res D) (f : Env → Mem → Res D) : Env → Mem → Res D := fun ρ M => (f ρ M).bind g
/-- all kinds of data against a class -/
def kinds : List String := ["NoneType", "bool", "int", "str", "tuple", "list"]
theorem tyOf_kind (d : D) (hf : isFn d = false) : tyOf d ∈ kinds := by cases d <;> first | (simp [tyOf, kinds]; done) | cases hf
def TyGood (T : String) : Prop := ∀ a ∈ kinds, kitB a T = some (isOne a T)
theorem good_int : TyGood "int" := by unfold TyGood kinds; decide +kernel
theorem good_bool : TyGood "bool" := by unfold TyGood kinds; decide +kernel
theorem good_str : TyGood "str" := by unfold TyGood kinds; decide +kernel
theorem good_tuple : TyGood "tuple" := by unfold TyGood kinds; decide +kernel
theorem good_list : TyGood "list" := by unfold TyGood kinds; decide +kernel
theorem pe_tyN {n : Str} {T : String} (hg : Gl X n) (hm : X.mg n = none) (hv : bootBuiltins n = some (.type T)) (hn : n ≠ "__name__" := by decide) (hd : (n == ("__debug__" : Str)) = false := by decide) : PE X (.Name n p) (tC (.ty T)) :=
  ⟨fun pins s σ H Q I h => ld_blt I hg hm hv ⟨.ty T, H, I, rfl, h⟩ hn hd⟩
theorem c_isi {n : Str} {T' : String} {np ip : Pos} (hT : TyGood T') (hg : Gl X "isinstance") (hm : X.mg "isinstance" = none) (hgn : Gl X n) (hmn : X.mg n = none) (hvn : bootBuiltins n = some (.type T')) (he : PE X e (T X.K S W f)) (hnn : n ≠ "__name__" := by decide) (hdn : (n == ("__debug__" : Str)) = false := by decide)
    (hs1 : starEach [e, .Name n np] X.env = (false, eval e X.env) :: starEach [.Name n np] X.env := by rfl) (hs2 : starEach [.Name n np] X.env = (false, eval (.Name n np) X.env) :: starEach [] X.env := by rfl) (hpl : (backTo pos (starEach [.Name n np] X.env)).any (·.1) = false := by rfl) :
    PE X (.Call (.Name "isinstance" ip) [e, .Name n np] [] pos) (T X.K S W (fGo (gIsi [T']) f)) :=
  (pe_callB (call_isi) hg hm PyProof.Rows.boot_isinstance (pa_cons he (pa_cons (pe_tyN hgn hmn hvn hnn hdn) pa_nil hs2) hs1) (by decide) (by decide) hs1 hpl).imp fun σ H Q h =>
    Tg.bind (k := fun _ => gIsi [T']) h fun ρ μ ν M d x H1 j e s rd o =>
      ⟨x, .ty T', .type (tyOf d), .type T', [T'].any (isOne (tyOf d)), rfl, .ty T', tyOf_ok rd s (isi_out o).1, kit_ty ((hT _ (tyOf_kind d (isi_out o).1)).trans (by simp [List.any])), Ok.flat (isi_out o).2 (.bl _) s⟩
theorem c_isi2 {n m : Str} {T1 T2 : String} {k : Nat} {np mp tp ip : Pos} (hT1 : TyGood T1) (hT2 : TyGood T2) (hg : Gl X "isinstance") (hm : X.mg "isinstance" = none) (hgn : Gl X n) (hmn : X.mg n = none) (hvn : bootBuiltins n = some (.type T1)) (hgm : Gl X m) (hmm : X.mg m = none) (hvm : bootBuiltins m = some (.type T2))
    (he : PE X e (T X.K S W f)) (hnn : n ≠ "__name__" := by decide) (hdn : (n == ("__debug__" : Str)) = false := by decide) (hnm : m ≠ "__name__" := by decide) (hdm : (m == ("__debug__" : Str)) = false := by decide)
    (hs1 : starEach [e, .Tuple [.Name n np, .Name m mp] k tp] X.env = (false, eval e X.env) :: starEach [.Tuple [.Name n np, .Name m mp] k tp] X.env := by rfl) (hs2 : starEach [.Tuple [.Name n np, .Name m mp] k tp] X.env = (false, eval (.Tuple [.Name n np, .Name m mp] k tp) X.env) :: starEach [] X.env := by rfl)
    (hs3 : starEach [.Name n np, .Name m mp] X.env = (false, eval (.Name n np) X.env) :: starEach [.Name m mp] X.env := by rfl) (hs4 : starEach [.Name m mp] X.env = (false, eval (.Name m mp) X.env) :: starEach [] X.env := by rfl)
    (hpl : (backTo pos (starEach [.Tuple [.Name n np, .Name m mp] k tp] X.env)).any (·.1) = false := by rfl) :
    PE X (.Call (.Name "isinstance" ip) [e, .Tuple [.Name n np, .Name m mp] k tp] [] pos) (T X.K S W (fGo (gIsi [T1, T2]) f)) :=
  (pe_callB (call_isiT) hg hm PyProof.Rows.boot_isinstance (pa_cons he (pa_cons (pe_tup (pa_cons (pe_tyN hgn hmn hvn hnn hdn) (pa_cons (pe_tyN hgm hmm hvm hnm hdm) pa_nil hs4) hs3)) pa_nil hs2) hs1) (by decide) (by decide) hs1 hpl).imp fun σ H Q h =>
    Tg.bind (k := fun _ => gIsi [T1, T2]) h fun ρ μ ν M d x H1 j e s rd o => by
      refine ⟨by show 2 ≤ sizeLine; rw [sizeLine_eq]; omega, fun p hp => ?_⟩
      have xx : Ext H1 μ (upd H1 p (.tup [.ty T1, .ty T2])) μ := ext_fresh hp (s.notin hp)
      have s' := s.up (up_fresh (o := .tup [.ty T1, .ty T2]) hp)
      refine ⟨x, p, [.ty T1, .ty T2], .type (tyOf d), [.type T1, .type T2], [T1, T2].any (isOne (tyOf d)), rfl, upd_same, .cons (.ty T1) (.cons (.ty T2) .nil), tyOf_ok (rd.ext xx) s' (isi_out o).1, ?_, (isi_out o).2 (.bl _) _ μ xx (.bl _) s'⟩
      refine kitAny_cons (kit_ty (hT1 _ (tyOf_kind d (isi_out o).1))) (fun z => kitAny_cons (kit_ty (hT2 _ (tyOf_kind d (isi_out o).1))) (fun z2 => ?_) (fun z2 => ?_)) fun z => ?_
      · simp [List.any, z, z2, kitAny_nil]
      · simp [List.any, z, z2]
      · simp [List.any, z]
/-! ### all of a list of truth values -/
def blsOf : List D → Option (List Bool)
  | [] => some []
  | .bl b :: r => match blsOf r with
    | some bs => some (b :: bs)
    | none => none
  | _ :: _ => none
theorem blsOf_R {K H μ ν} : ∀ {ds : List D} {vs : List V} {bs : List Bool}, Rs K H μ ν ds vs → blsOf ds = some bs → vs = bs.map V.bl
  | _, _, _, .nil, h => by cases h; rfl
  | _, _, _, .cons r t, h => by
    cases r with
    | bl b =>
      unfold blsOf at h
      split at h
      · rename_i q
        cases h
        rw [blsOf_R t q]
        rfl
      · cases h
    | _ => cases h
def gAll : List D → Mem → Res D := fun ds M => match ds with
  | [d] => match lstOf M d with
    | some xs => match blsOf xs with
      | some bs => .ok (.bl (bs.all id)) M
      | none => .stuck
    | none => .stuck
  | _ => .stuck
theorem cc_all (hc : X.calm = true) : CallR X (.builtin "all") (rCC X.K S.Tb gAll) := CallR.imp (cr_all hc) fun vs H Q h => by
  obtain ⟨W, σ, ds, μ, ν, M, rs, s, o⟩ := h
  cases rs with
  | nil => exact o.elim
  | cons r t =>
    rename_i d ds v vs
    cases t with
    | cons _ _ => exact o.elim
    | nil =>
      unfold gAll at o
      simp only at o
      cases q : lstOf M d with
      | none => rw [q] at o; exact o.elim
      | some xs =>
        rw [q] at o
        simp only at o
        cases q2 : blsOf xs with
        | none => rw [q2] at o; exact o.elim
        | some bs =>
          rw [q2] at o
          obtain ⟨a, ws, rfl, h1, h2⟩ := lstOf_at r s q
          have e := blsOf_R h2 q2
          subst e
          exact ⟨a, bs, rfl, .inl (.inl h1), Ok.flat o (.bl _) s⟩
end
end SD

set_option Elab.async false
set_option linter.all false
set_option maxRecDepth 100000
set_option maxHeartbeats 4000000
namespace SD
open PySem PySem.Spec PyProof.Rows L2
/-! ### comprehensions of two loops -/
def compGo2 (src : Src) (own : List Nat) (asg : D → Env → Option Env) (t : Env → Mem → Res Bool) (it1 : Env → Mem → Res Src) (vs1 : List Nat) (asg1 : D → Env → Option Env) (t1 : Env → Mem → Res Bool) (f : Env → Mem → Res D) (ρ : Env) : Nat → Nat → List D → Mem → Res (List D)
  | 0, i, acc, M => if (src.get M).length = i then .ok acc M else .stuck
  | k + 1, i, acc, M => match (src.get M)[i]? with
    | none => .stuck
    | some d => match asg d (wipeE ρ own) with
      | none => .stuck
      | some ρ' => (noX (t ρ' M)).bind fun b M1 => if b = true then (noX (it1 ρ' M1)).bind fun src1 M2 => (compGo src1 vs1 asg1 t1 f ρ' (src1.get M2).length 0 acc M2).bind fun acc' M3 => compGo2 src own asg t it1 vs1 asg1 t1 f ρ k (i + 1) acc' M3
        else compGo2 src own asg t it1 vs1 asg1 t1 f ρ k (i + 1) acc M1
def fComp2 (it : Env → Mem → Res Src) (own : List Nat) (asg : D → Env → Option Env) (t : Env → Mem → Res Bool) (it1 : Env → Mem → Res Src) (vs1 : List Nat) (asg1 : D → Env → Option Env) (t1 : Env → Mem → Res Bool) (f : Env → Mem → Res D) : Env → Mem → Res (List D) :=
  fun ρ M => (it ρ M).bind fun src M1 => compGo2 src own asg t it1 vs1 asg1 t1 f ρ (src.get M1).length 0 [] M1
theorem noX_ok {α : Type} {K Tb W σ ν H μ Q} {r : Res α} {kk : α → Mem → Res (List D)} (z : OkN K Tb W σ ν H μ Q ((SD.noX r).bind kk)) : ∃ a M2, r = .ok a M2 ∧ OkN K Tb W σ ν H μ Q (kk a M2) := by
  cases r with
  | ok a M2 => exact ⟨a, M2, rfl, z⟩
  | exn x M2 => exact z.elim
  | stuck => exact z.elim
theorem Res.bind_assoc {α β γ : Type} (r : Res α) (f : α → Mem → Res β) (g : β → Mem → Res γ) : (r.bind f).bind g = r.bind fun a M => (f a M).bind g := by
  cases r <;> rfl
section
variable {X : Cx} {S : Side} {W : WX} {elt tg iter tg1 iter1 : Expr} {f : Env → Mem → Res D} {t t1 : Env → Mem → Res Bool} {it it1 : Env → Mem → Res Src} {asg asg1 : D → Env → Option Env} {ix ix1 vs1 : List Nat} {ifs ifs1 : List Expr} {scope : Scope} {own : List (Str × Nat)} {pos : Pos}
theorem comp2_read (hS : S.AnyN) (hx : ∀ i ∈ ix, i ∈ own.map (·.2)) (hv : ∀ i ∈ vs1, i ∈ own.map (·.2)) (hx1 : ∀ i ∈ ix1, i ∈ vs1) (hy : ∀ i ∈ S.fix, i ∉ own.map (·.2)) {σ : L2.St} {H : Hp} {Q : VK} (h : TN X.K S W (fComp2 it (own.map (·.2)) asg t it1 vs1 asg1 t1 f) σ H Q) :
    tLc2 (TIc X.K S W it) (GTc X.K S.Tb asg ix) (TB X.K S WF t) (TIc X.K S WF it1) (GTc X.K S.Tb asg1 ix1) (TB X.K S WF t1) (T X.K S WF f) (own.map (·.2)) vs1 σ H Q :=
  TN.bind (rel := rI X.K S.Tb) (k := fun ρ (src : Src) M1 => compGo2 src (own.map fun (x : Str × Nat) => x.2) asg t it1 vs1 asg1 t1 f ρ (src.get M1).length 0 [] M1) h fun ρ μ1 ν M src J H1 j1 e1 s1 rI o => by
    intro p hp
    have hm : p ∈ p :: ν := List.mem_cons_self
    refine ⟨fun i m H => ∃ (μ : List Addr) (M : Mem) (acc : List D) (va : List V), Ext H1 μ1 H μ ∧ SR X.K S.Tb H μ (p :: ν) M ∧ REnv X.K H μ (p :: ν) ρ σ ∧ ItOk X.K S.Tb J src H μ (p :: ν) ∧ H p = some (.lst va) ∧ Rs X.K H μ (p :: ν) acc va ∧
      OkN X.K S.Tb W σ ν H1 μ1 Q (compGo2 src (own.map (·.2)) asg t it1 vs1 asg1 t1 f ρ m i acc M), ⟨_, μ1, M, [], [], ext_fresh hp (s1.notin hp), s1.aside hp, e1.aside (aside_fresh hp), rI.aside (aside_fresh hp), upd_same, .nil, o⟩, ?_⟩
    rintro i m H' ⟨μ', M', acc, va, x', s', e', r', hD, ra, o'⟩
    have tn := r'.turn s' i
    cases m with
    | zero =>
      unfold compGo2 at o'
      by_cases hl : (src.get M').length = i
      · rw [if_pos hl] at o'
        exact .inl ⟨tn.2 (Nat.le_of_eq hl), o' p va H' μ' x' s' ra hD (.of hp)⟩
      · rw [if_neg hl] at o'
        exact o'.elim
    | succ k =>
      unfold compGo2 at o'
      cases hd : (src.get M')[i]? with
      | none => rw [hd] at o'; exact o'.elim
      | some d =>
        simp only [hd] at o'
        cases ha : asg d (wipeE ρ (own.map (·.2))) with
        | none => simp only [ha] at o'; exact o'.elim
        | some ρ1 =>
          simp only [ha] at o'
          obtain ⟨go, yl⟩ := tn.1 d hd
          refine .inr ⟨go, fun H2 => ∃ (μ : List Addr) (M : Mem) (acc : List D) (va : List V), Ext H1 μ1 H2 μ ∧ SR X.K S.Tb H2 μ (p :: ν) M ∧ REnv X.K H2 μ (p :: ν) ρ σ ∧ ItOk X.K S.Tb J src H2 μ (p :: ν) ∧ H2 p = some (.lst va) ∧ Rs X.K H2 μ (p :: ν) acc va ∧
            OkN X.K S.Tb W σ ν H1 μ1 Q (compGo2 src (own.map (·.2)) asg t it1 vs1 asg1 t1 f ρ k (i + 1) acc M), fun H2 z => ⟨k, Nat.lt_succ_self k, z⟩, fun x H2 y => ?_⟩
          obtain ⟨up, rd⟩ := yl x H2 y
          have x2 : Ext H' μ' H2 μ' := ext_up up
          have s2 := s'.up up
          have hD2 : H2 p = some (.lst va) := up _ _ hD
          refine ⟨d, _, μ', p :: ν, M', ρ1, rd, (e'.ext x2).wipe _, s2, ha, fun σ3 e3 c3 => ?_⟩
          have k3 : Kp S.fix σ σ3 := fun i hi => by rw [c3.2 i fun z => hy i hi (hx i z), wipe_out (hy i hi)]
          refine ⟨wipe_chg c3 hx, ρ1, μ', p :: ν, M', S.mv (hS (S.st j1 (x'.trans x2))) k3, e3, s2, ?_⟩
          obtain ⟨b, M3, hb, o3⟩ := noX_ok o'
          rw [hb]
          intro b' H3 μ3 x3 rb s3
          cases rb
          have x13 : Ext H1 μ1 H3 μ3 := (x'.trans x2).trans x3
          have r3 : ItOk X.K S.Tb J src H3 μ3 (p :: ν) := (r'.ext x2).ext x3
          have hn0 : p ∉ μ' := (s'.res p List.mem_cons_self).2
          obtain ⟨hD3, hn3⟩ := x3.keep p _ hD2 hn0 (fun ps z => by cases z)
          cases b with
          | false =>
            rw [if_neg Bool.false_ne_true]
            rw [if_neg Bool.false_ne_true] at o3
            exact ⟨μ3, M3, acc, va, x13, s3, (e'.ext x2).ext x3, r3, hD3, (ra.ext x2).ext x3, o3⟩
          | true =>
            rw [if_pos rfl]
            rw [if_pos rfl] at o3
            obtain ⟨src1, M4, hit, o4⟩ := noX_ok o3
            refine ⟨ρ1, μ3, p :: ν, M3, S.mv (hS (S.st j1 x13)) k3, e3.ext x3, s3, ?_⟩
            rw [hit]
            intro J1 H4 μ4 x4 rI1 s4
            obtain ⟨hD4, hn4⟩ := x4.keep p _ hD3 hn3 (fun ps z => by cases z)
            refine ⟨fun j m H => ∃ (μ : List Addr) (M : Mem) (acc : List D) (va : List V), Ext H1 μ1 H μ ∧ SR X.K S.Tb H μ (p :: ν) M ∧ REnv X.K H μ (p :: ν) ρ σ ∧ REnv X.K H μ (p :: ν) ρ1 σ3 ∧ ItOk X.K S.Tb J src H μ (p :: ν) ∧ ItOk X.K S.Tb J1 src1 H μ (p :: ν) ∧ H p = some (.lst va) ∧ Rs X.K H μ (p :: ν) acc va ∧
              OkN X.K S.Tb W σ ν H1 μ1 Q ((compGo src1 vs1 asg1 t1 f ρ1 m j acc M).bind fun acc' M3 => compGo2 src (own.map (·.2)) asg t it1 vs1 asg1 t1 f ρ k (i + 1) acc' M3),
              ⟨_, μ4, M4, acc, va, x13.trans x4, s4, ((e'.ext x2).ext x3).ext x4, (e3.ext x3).ext x4, r3.ext x4, rI1, hD4, ((ra.ext x2).ext x3).ext x4, o4⟩, ?_⟩
            rintro j m5 H5 ⟨μ5, M5, acc5, va5, x5, s5, e5, e5', r5, r5', hD5, ra5, o5⟩
            have tn1 := r5'.turn s5 j
            cases m5 with
            | zero =>
              unfold compGo at o5
              by_cases hl : (src1.get M5).length = j
              · rw [if_pos hl] at o5
                exact .inl ⟨tn1.2 (Nat.le_of_eq hl), μ5, M5, acc5, va5, x5, s5, e5, r5, hD5, ra5, o5⟩
              · rw [if_neg hl] at o5
                exact o5.elim
            | succ k5 =>
              unfold compGo at o5
              cases hd1 : (src1.get M5)[j]? with
              | none => rw [hd1] at o5; exact o5.elim
              | some d1 =>
                simp only [hd1] at o5
                cases ha1 : asg1 d1 (wipeE ρ1 vs1) with
                | none => simp only [ha1] at o5; exact o5.elim
                | some ρ2 =>
                  simp only [ha1] at o5
                  obtain ⟨go1, yl1⟩ := tn1.1 d1 hd1
                  refine .inr ⟨go1, fun H6 => ∃ (μ : List Addr) (M : Mem) (acc : List D) (va : List V), Ext H1 μ1 H6 μ ∧ SR X.K S.Tb H6 μ (p :: ν) M ∧ REnv X.K H6 μ (p :: ν) ρ σ ∧ REnv X.K H6 μ (p :: ν) ρ1 σ3 ∧ ItOk X.K S.Tb J src H6 μ (p :: ν) ∧ ItOk X.K S.Tb J1 src1 H6 μ (p :: ν) ∧ H6 p = some (.lst va) ∧ Rs X.K H6 μ (p :: ν) acc va ∧
                    OkN X.K S.Tb W σ ν H1 μ1 Q ((compGo src1 vs1 asg1 t1 f ρ1 k5 (j + 1) acc M).bind fun acc' M3 => compGo2 src (own.map (·.2)) asg t it1 vs1 asg1 t1 f ρ k (i + 1) acc' M3), fun H6 z => ⟨k5, Nat.lt_succ_self k5, z⟩, fun xv H6 y1 => ?_⟩
                  obtain ⟨up1, rd1⟩ := yl1 xv H6 y1
                  have x6 : Ext H5 μ5 H6 μ5 := ext_up up1
                  have s6 := s5.up up1
                  have hD6 : H6 p = some (.lst va5) := up1 _ _ hD5
                  refine ⟨d1, _, μ5, p :: ν, M5, ρ2, rd1, (e5'.ext x6).wipe _, s6, ha1, fun σ7 e7 c7 => ?_⟩
                  have k7 : Kp S.fix σ σ7 := fun i hi => by rw [c7.2 i fun z => hy i hi (hv i (hx1 i z)), wipe_out (fun z => hy i hi (hv i z)), k3 i hi]
                  refine ⟨wipe_chg c7 hx1, ρ2, μ5, p :: ν, M5, S.mv (hS (S.st j1 (x5.trans x6))) k7, e7, s6, ?_⟩
                  rw [Res.bind_assoc] at o5
                  obtain ⟨b7, M7, hb7, o7⟩ := noX_ok o5
                  rw [hb7]
                  intro b' H7 μ7 x7 rb s7
                  cases rb
                  have x17 : Ext H1 μ1 H7 μ7 := (x5.trans x6).trans x7
                  have hn5 : p ∉ μ5 := (s5.res p List.mem_cons_self).2
                  obtain ⟨hD7, hn7⟩ := x7.keep p _ hD6 hn5 (fun ps z => by cases z)
                  cases b7 with
                  | false =>
                    rw [if_neg Bool.false_ne_true]
                    rw [if_neg Bool.false_ne_true] at o7
                    exact ⟨μ7, M7, acc5, va5, x17, s7, (e5.ext x6).ext x7, (e5'.ext x6).ext x7, (r5.ext x6).ext x7, (r5'.ext x6).ext x7, hD7, (ra5.ext x6).ext x7, o7⟩
                  | true =>
                    rw [if_pos rfl]
                    rw [if_pos rfl, Res.bind_assoc] at o7
                    obtain ⟨y8, M8, hf8, o8⟩ := noX_ok o7
                    refine ⟨ρ2, μ7, p :: ν, M7, S.mv (hS (S.st j1 x17)) k7, e7.ext x7, s7, ?_⟩
                    rw [hf8]
                    intro v8 H8 μ8 x8 ry s8
                    obtain ⟨hD8, hn8⟩ := x8.keep p _ hD7 hn7 (fun ps z => by cases z)
                    by_cases hl : acc5.length < line
                    · rw [if_pos hl] at o8
                      have ra8 : Rs X.K H8 μ8 (p :: ν) acc5 va5 := ((ra5.ext x6).ext x7).ext x8
                      refine ⟨va5, hD8, by rw [← ra8.length, sizeLine_eq]; exact hl, μ8, M8, acc5 ++ [y8], va5 ++ [v8], ext_wr (x17.trans x8) (.of hp), s8.wr hm hD8, (((e5.ext x6).ext x7).ext x8).wr hm hD8, (((e5'.ext x6).ext x7).ext x8).wr hm hD8, (((r5.ext x6).ext x7).ext x8).wr hm hD8, (((r5'.ext x6).ext x7).ext x8).wr hm hD8, upd_same, ?_, o8⟩
                      exact (ra8.wr hm hD8).append (.cons (ry.wr hm hD8) .nil)
                    · rw [if_neg hl] at o8
                      exact o8.elim
theorem c_lc2 (hc : X.calm = true) (hN : X.N.Nodup) (hi : PI X tg iter (TIc X.K S W it)) (ok : BlkOk X.N X.env.scope scope own) (hx : ∀ i ∈ ix, i ∈ own.map (·.2)) (hv : ∀ i ∈ vs1, i ∈ own.map (·.2)) (hx1 : ∀ i ∈ ix1, i ∈ vs1)
    (hg : ∀ (s : Shared) (H : Hp) (C : Addr) (cl : List (Str × Addr)) (fp : List Addr), PG (X.blk s H scope (compEnvC scope cl C X.env) fp) tg (GTc X.K S.Tb asg ix))
    (ht : ∀ (s : Shared) (H : Hp) (C : Addr) (cl : List (Str × Addr)) (fp : List Addr), PTs (X.blk s H scope (compEnvC scope cl C X.env) fp) ifs (TB X.K S WF t))
    (hi1 : ∀ (s : Shared) (H : Hp) (C : Addr) (cl : List (Str × Addr)) (fp : List Addr), PI (X.blk s H scope (compEnvC scope cl C X.env) fp) tg1 iter1 (TIc X.K S WF it1))
    (hg1 : ∀ (s : Shared) (H : Hp) (C : Addr) (cl : List (Str × Addr)) (fp : List Addr), PG (X.blk s H scope (compEnvC scope cl C X.env) fp) tg1 (GTc X.K S.Tb asg1 ix1))
    (ht1 : ∀ (s : Shared) (H : Hp) (C : Addr) (cl : List (Str × Addr)) (fp : List Addr), PTs (X.blk s H scope (compEnvC scope cl C X.env) fp) ifs1 (TB X.K S WF t1))
    (he : ∀ (s : Shared) (H : Hp) (C : Addr) (cl : List (Str × Addr)) (fp : List Addr), PE (X.blk s H scope (compEnvC scope cl C X.env) fp) elt (T X.K S WF f)) (hs : ∀ x, foldedSetIterable iter X.env x = pure x := by intro _; rfl) (hs1 : ∀ env x, foldedSetIterable iter1 env x = pure x := by intro _ _; rfl) (hS : S.AnyN := by tbn_conj) (hy : ∀ i ∈ S.fix, i ∉ own.map (·.2) := by kpt_turns) :
    PE X (.ListComp elt [⟨tg, iter, ifs, 0⟩, ⟨tg1, iter1, ifs1, 0⟩] scope pos) (TN X.K S W (fComp2 it (own.map (·.2)) asg t it1 vs1 asg1 t1 f)) := (pe_lc2 hc hN hi ok hv hg ht hi1 hg1 ht1 he hs hs1).imp fun σ H Q h => comp2_read hS hx hv hx1 hy h
theorem c_setLc2 {i : Nat} {y : Str} {py spos : Pos} (hc : X.calm = true) (hN : X.N.Nodup) (hy : X.N[i]? = some y) (hyl : X.env.scope.names.lookup y = some .local)
    (hsw : swapsWith (.ListComp elt [⟨tg, iter, ifs, 0⟩, ⟨tg1, iter1, ifs1, 0⟩] scope pos) (some (.Name y py)) spos.line X.env = pure true) (hi : PI X tg iter (TIc X.K S W it)) (ok : BlkOk X.N X.env.scope scope own) (hx : ∀ i ∈ ix, i ∈ own.map (·.2)) (hv : ∀ i ∈ vs1, i ∈ own.map (·.2)) (hx1 : ∀ i ∈ ix1, i ∈ vs1)
    (hg : ∀ (s : Shared) (H : Hp) (C : Addr) (cl : List (Str × Addr)) (fp : List Addr), PG (X.blk s H scope (compEnvC scope cl C X.env) fp) tg (GTc X.K S.Tb asg ix))
    (ht : ∀ (s : Shared) (H : Hp) (C : Addr) (cl : List (Str × Addr)) (fp : List Addr), PTs (X.blk s H scope (compEnvC scope cl C X.env) fp) ifs (TB X.K S WF t))
    (hi1 : ∀ (s : Shared) (H : Hp) (C : Addr) (cl : List (Str × Addr)) (fp : List Addr), PI (X.blk s H scope (compEnvC scope cl C X.env) fp) tg1 iter1 (TIc X.K S WF it1))
    (hg1 : ∀ (s : Shared) (H : Hp) (C : Addr) (cl : List (Str × Addr)) (fp : List Addr), PG (X.blk s H scope (compEnvC scope cl C X.env) fp) tg1 (GTc X.K S.Tb asg1 ix1))
    (ht1 : ∀ (s : Shared) (H : Hp) (C : Addr) (cl : List (Str × Addr)) (fp : List Addr), PTs (X.blk s H scope (compEnvC scope cl C X.env) fp) ifs1 (TB X.K S WF t1))
    (he : ∀ (s : Shared) (H : Hp) (C : Addr) (cl : List (Str × Addr)) (fp : List Addr), PE (X.blk s H scope (compEnvC scope cl C X.env) fp) elt (T X.K S WF f)) (hs : ∀ x, foldedSetIterable iter X.env x = pure x := by intro _; rfl) (hs1 : ∀ env x, foldedSetIterable iter1 env x = pure x := by intro _ _; rfl) (hS : S.AnyN := by tbn_conj) (hy' : ∀ i ∈ S.fix, i ∉ own.map (·.2) := by kpt_turns) (hi' : i ∉ S.fix := by kpt_turns) :
    PS X (.Assign [.Name y py] (.ListComp elt [⟨tg, iter, ifs, 0⟩, ⟨tg1, iter1, ifs1, 0⟩] scope pos) spos) (TSc X.K S W (fAsg (fLst (fComp2 it (own.map (·.2)) asg t it1 vs1 asg1 t1 f)) (aName i))) :=
  (ps_setLc2 hc hN hy hyl hsw hi ok hv hg ht hi1 hg1 ht1 he hs hs1).imp fun E σ H q => by
    obtain ⟨ρ, μ, ν, M, j, e, s, o⟩ := q
    refine comp2_read hS hx hv hx1 hy' ⟨ρ, μ, ν, M, j, e, s, ?_⟩
    unfold fAsg fLst at o
    cases r : fComp2 it (own.map (·.2)) asg t it1 vs1 asg1 t1 f ρ M with
    | ok ds M1 =>
      rw [r] at o
      intro p vs H' μ' x s' r' h1 h2
      exact o (σ.set i (some (.ref p))) H' μ' x (.set hi') ((e.ext x).set (.lst ⟨h1, (s'.res p List.mem_cons_self).2, free_res s h2⟩ r'.release) i) s'.release
    | exn x M1 =>
      rw [r] at o
      intro cls dd H' μ' x' rx s'
      exact o cls dd σ H' μ' x' .refl (e.ext x') rx s'
    | stuck => rw [r] at o; exact o
end
end SD

set_option Elab.async false
set_option linter.all false
set_option maxRecDepth 100000
set_option maxHeartbeats 4000000
namespace SD
open PySem PySem.Spec PyProof.Rows L2
/-! ### enumerate of a tuple -/
theorem meets_enumT (l : Addr) (items : Array Value) :
    Meets (Builtin.«enumerate.__new__» ⟨[.type "enumerate", .ref l], []⟩) (fun _ R s => s.heap.IsTuple l items ∧
      R (.ok (.ret (.ref (s.heap.push { cls := .type "tuple_iterator", data := .fields #[.ref l, .int 0 0] }).objs.size)))
        { s with heap := (s.heap.push { cls := .type "tuple_iterator", data := .fields #[.ref l, .int 0 0] }).push { cls := .type "enumerate", data := .fields #[.none, .bool false, .ref s.heap.objs.size, rawInt 0, .none, .none] } }) :=
  .of_wp fun prog w A R s h => by
    obtain ⟨hp, g, d, tk, os⟩ := s; obtain ⟨hL, h⟩ := h
    have hsub := sub_enumerate
    have hL : Heap.IsTuple (Shared.heap ⟨hp, g, d, tk, os⟩) l items := hL
    wp_walk using wpAny_pyIter_tuple hL
    refine wpAny_stack_any fun st => wpAny_pure ?_
    split
    · rename_i c _ _ _ _ _
      cases (c == Value.type "enumerate")
      · wp_walk using wpAny_pyIter_tuple hL
        exact ⟨_, rfl, h⟩
      · wp_walk using wpAny_pyIter_tuple hL
        exact ⟨_, rfl, h⟩
    · wp_walk using wpAny_pyIter_tuple hL
      exact ⟨_, rfl, h⟩
theorem call_enumT {prog : Program} {w : World} {A : Around} {E : Value → Shared → Prop} {s : Shared} {l : Addr} {items : Array Value} {Q : Value → Shared → Prop} (hL : s.heap.IsTuple l items)
    (h : ∀ h', IsEnum h' (s.heap.objs.size + 1) s.heap.objs.size 0 .none → h'.IsTupleIter s.heap.objs.size l 0 → h'.objs.size = s.heap.objs.size + 2 →
      (∀ b o, s.heap.get? b = some o → h'.get? b = some o) → Q (.ref (s.heap.objs.size + 1)) { s with heap := h' }) :
    wpAny (model prog w) A (call (.type "enumerate") [.ref l]) Q E s := by
  refine callType_new F.called_enumerate (by decide) (F.typeCall_enumerate_1 _) (F.newCall_enumerate_1 _) (fun obj => F.args_object_init_2 obj _) F.entry_enumerate_new
    (meets_enumT l items) ⟨hL, ?_⟩
  have hz : (s.heap.push { cls := .type "tuple_iterator", data := .fields #[.ref l, .int 0 0] }).objs.size = s.heap.objs.size + 1 := Heap.size_push ..
  show _ ∧ _
  rw [hz]
  have he : IsEnum ((s.heap.push { cls := .type "tuple_iterator", data := .fields #[.ref l, .int 0 0] }).push
      { cls := .type "enumerate", data := .fields #[.none, .bool false, .ref s.heap.objs.size, rawInt 0, .none, .none] }) (s.heap.objs.size + 1) s.heap.objs.size 0 .none := by
    have := Heap.get?_push_size (s.heap.push { cls := .type "tuple_iterator", data := .fields #[.ref l, .int 0 0] })
      (o := { cls := .type "enumerate", data := .fields #[.none, .bool false, .ref s.heap.objs.size, rawInt 0, .none, .none] }) rfl
    rw [hz] at this; exact this
  refine ⟨⟨_, he, rfl⟩, h _ he ⟨_, Heap.get?_push_of_some _ (Heap.get?_push_size _ rfl), rfl, rfl⟩ (by rw [Heap.size_push, hz]) fun b o x => Heap.get?_push_of_some _ (Heap.get?_push_of_some _ x)⟩
/-- the tuple at a, each item in a new pair -/
def IteT (K : PySem.W.Frag) (a : Addr) : It :=
  ⟨fun i H => ∃ (xs : List V) (x : V), SqT K H a xs ∧ xs[i]? = some x, fun i H v H' => ∃ T x, v = .ref T ∧ H T = none ∧ H' = upd H T (.tup [.int (i : Nat), x]) ∧ ∀ xs, SqT K H a xs → xs[i]? = some x, fun i H => ∃ xs : List V, SqT K H a xs ∧ xs.length ≤ i⟩
theorem turn_enumT {P : Program} {w : World} {K : PySem.W.Frag} {elts : List Expr} {kk : Nat} {tpos : Pos} (a e it : Addr) :
    Turn P w K (.Tuple elts kk tpos) (IteT K a) [e, it] e (fun i h => (∃ old, IsEnum h e it ((i : Nat) : Int) old) ∧ h.IsTupleIter it a i ∧ e ≠ it) where
  mem := by simp
  obj := fun i h st b hb => by
    obtain ⟨⟨old, he⟩, ⟨o, ho, hc, hd⟩, _⟩ := st
    have e' : b = e ∨ b = it := by simpa using hb
    rcases e' with z | z
    · rw [z]; exact ⟨_, he, fun v q => nomatch q⟩
    · rw [z]; exact ⟨o, ho, fun v q => by rw [hd] at q; cases q⟩
  keep := fun i h h' st k => let ⟨⟨old, he⟩, hi, hne⟩ := st; ⟨⟨old, k e (by simp) _ he⟩, hi.at fun o q => k it (by simp) o q, hne⟩
  item := by
    intro X hP hw hK hc i pins s σ H E I hf st hg
    subst hP hw hK
    obtain ⟨⟨old, he⟩, hit, hne⟩ := st
    obtain ⟨xs, x, hq, hx⟩ := hg
    obtain ⟨its, rv, p, hz⟩ := I.tuple hq
    obtain ⟨u, hu, ru⟩ := rv.get hx
    have hel : e < s.heap.objs.size := Heap.lt_size he
    have hil : it < s.heap.objs.size := by obtain ⟨_, q, _⟩ := hit; exact Heap.lt_size q
    have hae : e ≠ a := fun z => by
      subst z
      obtain ⟨o, ho, hc, _⟩ := p
      rw [he] at ho
      cases ho
      exact absurd (Value.type.inj hc) (by decide)
    have hai : a ≠ it := fun z => by
      subst z
      obtain ⟨o, ho, hc, _⟩ := p
      obtain ⟨o', ho', hc', _⟩ := hit
      rw [ho] at ho'
      cases ho'
      rw [hc] at hc'
      exact absurd (Value.type.inj hc') (by decide)
    have hlt : i < its.toArray.size := by
      rw [List.size_toArray]
      exact (List.getElem?_eq_some_iff.mp hu).1
    refine wpAny_pyNext_enum_itemD (Draws.tuple (A := X.A.in1) (I.ok.hd hc) it a hai its.toArray) he ⟨hit, p⟩ hlt hne (by simp [hne, hae]) fun v h' tk hv ho st' hT hsz hk => ?_
    have ev : v = u := by
      have hv' : its[i]? = some v := by simpa using hv
      rw [hu] at hv'
      exact (Option.some.inj hv').symm
    subst ev
    have hit' := st'.1
    refine ⟨_, rfl, wpAny_letOwnedTupleGo_enum (s := { s with heap := h', toks := tk + 1 }) ho fun h'' he' sb => ?_⟩
    have hT2 : h''.get? s.heap.objs.size = some { cls := .type "tuple", data := .seq #[.int i tk, v] } := (sb.2 _ (Nat.ne_of_gt hel)).trans hT
    have new : ObjOk X.prog X.w (upd H s.heap.objs.size (.tup [.int (i : Nat), x])) h'' s.heap.objs.size (.tup [.int (i : Nat), x]) :=
      ⟨by show 2 ≤ sizeLine; decide, [.int i tk, v], .cons ⟨_, rfl⟩ (.cons ru .nil), ⟨_, hT2, rfl, _, rfl⟩⟩
    have I1 : Inv X pins σ (upd H s.heap.objs.size (.tup [.int (i : Nat), x])) { s with heap := h'', toks := tk + 1 } :=
      I.turnedNew (ch := [e, it]) (fun b ob hb q => (sb.2 b (fun z => hb (by simp [z]))).trans (hk b ob (fun z => hb (by simp [z])) (fun z => hb (by simp [z])) q)) hf (Nat.le_refl _) new
    refine ⟨.ref s.heap.objs.size, _, I1, rfl, ⟨_, x, rfl, I.hok.fresh (Nat.le_refl _), rfl, fun ys hy => by rw [I.tuple_inj hy hq]; exact hx⟩, ⟨⟨v, ?_⟩, hit'.at fun o q => (sb.2 it (Ne.symm hne)).trans q, hne⟩, fun b hb => ?_⟩
    · have e1 : ((i + 1 : Nat) : Int) = (i : Int) + 1 := by omega
      rw [e1]; exact he'
    · have hb' : b < s.heap.objs.size := by
        have e' : b = e ∨ b = it := by simpa using hb
        rcases e' with z | z
        · rw [z]; exact hel
        · rw [z]; exact hil
      rw [upd_ne (Nat.ne_of_lt hb')]
      exact (hf b hb).1
  done := by
    intro X hP hw hK hc i pins s σ H E I hf st hg
    subst hP hw hK
    obtain ⟨⟨old, he⟩, hit, hne⟩ := st
    obtain ⟨xs, hq, hx⟩ := hg
    obtain ⟨its, rv, p, hz⟩ := I.tuple hq
    obtain ⟨f0, f1, f2, f3, f4, f5⟩ := hf it (by simp)
    have hl := rv.length
    have D : Draws X.prog X.w X.A.in1 it [it, a] i (fun _ _ => False) (fun j h => j = i ∧ h.IsTupleIter it a i ∧ h.IsTuple a its.toArray) :=
      { live := fun _ _ st => let ⟨o, ho, _⟩ := st.2.1; ⟨o, ho⟩
        frame := fun _ _ _ st hk => ⟨st.1, st.2.1.at fun o e => hk it (by simp) o e, st.2.2.at fun o e => hk a (by simp) o e⟩
        item := fun j s Q E hj st hQ => absurd st.1 (Nat.ne_of_lt hj)
        done := fun s Q E st hE => wpAny_nextOf_tuple_end (I.ok.hd hc) st.2.1 st.2.2 (by simp; omega) hE }
    exact wpAny_pyNext_enum_endD D he ⟨rfl, hit, p⟩ fun h' eb => ⟨rfl, I.turned (t' := s.toks) (fun b o hb q => eb b o hb q) f0 f1 f3 f4 f5⟩
  self := fun A i s Q E st h => let ⟨⟨_, he⟩, _⟩ := st; wpAny_pyIter_enum he h
def iEnumT (K : PySem.W.Frag) (ta : TA) : TI := fun σ H R => ta σ H fun vs H1 => ∃ a xs, vs = [.ref a] ∧ SqT K H1 a xs ∧ R (IteT K a) H1
theorem pi_enumT {X : Cx} {e : Expr} {ta : TA} {p pos tpos : Pos} {elts : List Expr} {kk : Nat} (hg : Gl X "enumerate") (hm : X.mg "enumerate" = none) (ha : PA X [e] ta) (hs : starEach [e] X.env = [(false, eval e X.env)] := by rfl) :
    PI X (.Tuple elts kk tpos) (.Call (.Name "enumerate" p) [e] [] pos) (iEnumT X.K ta) := by
  refine ⟨fun pins s σ H R I h => ?_⟩
  refine Call_ (ld_blt I hg hm boot_enumerate (PyProof.Rows.callWith_type1 (thn (ha.run pos pins s σ H _ I h) fun us s1 ⟨vs, H1, I1, r1, q1⟩ => ?_) hs rfl))
  obtain ⟨a, xs, ex, hq, q⟩ := q1
  subst ex
  cases r1 with
  | cons r rr =>
    cases rr
    cases r
    obtain ⟨its, rv, p', hz⟩ := I1.tuple hq
    refine call_enumT (show s1.heap.IsTuple a its.toArray from p') fun h' he hit hsz hk => wpAny_pyIter_enum he ?_
    have I2 : Inv X pins σ H1 { s1 with heap := h' } := I1.kept (t' := s1.toks) hk
    refine ⟨s1.heap.objs.size + 1, [s1.heap.objs.size + 1, s1.heap.objs.size], _, _, H1, rfl, I2, turn_enumT a (s1.heap.objs.size + 1) s1.heap.objs.size, ⟨⟨.none, he⟩, hit, Nat.succ_ne_self _⟩, fun b hb => ?_, q⟩
    have e' : b = s1.heap.objs.size + 1 ∨ b = s1.heap.objs.size := by simpa using hb
    have hle : s1.heap.objs.size ≤ b := by
      rcases e' with z | z
      · rw [z]; exact Nat.le_add_right _ _
      · rw [z]; exact Nat.le_refl _
    exact I1.fpOk hle (I1.hok.fresh hle)

/-! ### enumerate, zip as sources -/
theorem up_T {H H' : Hp} {T : Addr} {o : HO} (h : H T = none) (e : H' = upd H T o) : ∀ a u, H a = some u → H' a = some u := fun a u q => by rw [e]; exact up_fresh h a u q
def enD (ds : List D) : List D := (List.range ds.length).zipWith (fun (i : Nat) d => D.tup [.int (i : Int), d]) ds
theorem enD_len (ds : List D) : (enD ds).length = ds.length := by simp [enD]
theorem enD_get {ds : List D} {i : Nat} {d : D} (h : (enD ds)[i]? = some d) : ∃ e, ds[i]? = some e ∧ d = .tup [.int (i : Int), e] := by
  have hl : i < ds.length := by
    have := (List.getElem?_eq_some_iff.mp h).1
    rwa [enD_len] at this
  refine ⟨ds[i], List.getElem?_eq_getElem hl, ?_⟩
  unfold enD at h
  rw [List.getElem?_zipWith, List.getElem?_range hl, List.getElem?_eq_getElem hl] at h
  exact (Option.some.inj h).symm
theorem pair_R {K Tb H μ ν M} {T : Addr} {x y : V} {d e : D} (s : SR K Tb H μ ν M) (hT : H T = none) (r1 : R K H μ ν d x) (r2 : R K H μ ν e y) : R K (upd H T (.tup [x, y])) μ ν (.tup [d, e]) (.ref T) :=
  .tup (.inl ⟨.inl upd_same, s.free hT⟩) (Rs.ext (ext_fresh hT (s.notin hT)) (.cons r1 (.cons r2 .nil)))
theorem it_enT {K Tb H μ ν a vs ds} (h1 : AtT K H μ ν a vs) (h2 : Rs K H μ ν ds vs) : ItOk K Tb (IteT K a) (.fix (enD ds)) H μ ν :=
  ⟨fun H μ ν => AtT K H μ ν a vs ∧ Rs K H μ ν ds vs, ⟨h1, h2⟩, fun p e => ⟨p.1.ext e, p.2.ext e⟩, fun p e => ⟨p.1.aside e, p.2.aside e⟩, fun p hp hq => ⟨p.1.wr hp, p.2.wr hp hq⟩, fun {H μ ν M} p s i => by
    refine ⟨fun d hd => ?_, fun hl => ⟨vs, p.1.seq, by rw [← p.2.length, ← enD_len]; exact hl⟩⟩
    obtain ⟨d', hd', rfl⟩ := enD_get hd
    obtain ⟨v, e1, e2⟩ := p.2.get (i := i) hd'
    refine ⟨⟨vs, v, p.1.seq, e1⟩, fun x H' y => ?_⟩
    obtain ⟨T, x', rfl, hT, e, y⟩ := y
    have z := y vs p.1.seq
    rw [e1] at z
    cases z
    exact ⟨up_T hT e, by rw [e]; exact pair_R s hT (.int _) e2⟩⟩
theorem it_enL {K Tb H μ ν a vs ds} (h1 : AtS K H μ ν a vs) (h2 : Rs K H μ ν ds vs) : ItOk K Tb (Ite K a) (.fix (enD ds)) H μ ν :=
  ⟨fun H μ ν => AtS K H μ ν a vs ∧ Rs K H μ ν ds vs, ⟨h1, h2⟩, fun p e => ⟨p.1.ext e, p.2.ext e⟩, fun p e => ⟨p.1.aside e, p.2.aside e⟩, fun p hp hq => ⟨p.1.wr hp, p.2.wr hp hq⟩, fun {H μ ν M} p s i => by
    refine ⟨fun d hd => ?_, fun hl => ⟨vs, p.1.seq, by rw [← p.2.length, ← enD_len]; exact hl⟩⟩
    obtain ⟨d', hd', rfl⟩ := enD_get hd
    obtain ⟨v, e1, e2⟩ := p.2.get (i := i) hd'
    refine ⟨⟨vs, v, p.1.seq, e1⟩, fun x H' y => ?_⟩
    obtain ⟨T, x', rfl, hT, e, y⟩ := y
    have z := y vs p.1.seq
    rw [e1] at z
    cases z
    exact ⟨up_T hT e, by rw [e]; exact pair_R s hT (.int _) e2⟩⟩
def zipD (xs ys : List D) : List D := xs.zipWith (fun x y => D.tup [x, y]) ys
theorem zipD_get {xs ys : List D} {i : Nat} {d : D} (h : (zipD xs ys)[i]? = some d) : ∃ x y, xs[i]? = some x ∧ ys[i]? = some y ∧ d = .tup [x, y] := by
  unfold zipD at h
  rw [List.getElem?_zipWith] at h
  cases hx : xs[i]? with
  | none => rw [hx] at h; cases h
  | some x =>
    cases hy : ys[i]? with
    | none => rw [hx, hy] at h; cases h
    | some y =>
      rw [hx, hy] at h
      exact ⟨x, y, rfl, rfl, (Option.some.inj h).symm⟩
theorem zipD_end {xs ys : List D} {i : Nat} (h : (zipD xs ys).length ≤ i) : xs.length ≤ i ∨ ys.length ≤ i := by
  unfold zipD at h
  rw [List.length_zipWith] at h
  omega
theorem it_zipT {K Tb H μ ν a b vs ds ws es} (h1 : AtT K H μ ν a vs) (h2 : Rs K H μ ν ds vs) (h3 : AtT K H μ ν b ws) (h4 : Rs K H μ ν es ws) : ItOk K Tb (RZ.ItzT K a b) (.fix (zipD ds es)) H μ ν :=
  ⟨fun H μ ν => (AtT K H μ ν a vs ∧ Rs K H μ ν ds vs) ∧ AtT K H μ ν b ws ∧ Rs K H μ ν es ws, ⟨⟨h1, h2⟩, h3, h4⟩, fun p e => ⟨⟨p.1.1.ext e, p.1.2.ext e⟩, p.2.1.ext e, p.2.2.ext e⟩, fun p e => ⟨⟨p.1.1.aside e, p.1.2.aside e⟩, p.2.1.aside e, p.2.2.aside e⟩, fun p hp hq => ⟨⟨p.1.1.wr hp, p.1.2.wr hp hq⟩, p.2.1.wr hp, p.2.2.wr hp hq⟩, fun {H μ ν M} p s i => by
    refine ⟨fun d hd => ?_, fun hl => ⟨vs, ws, p.1.1.seq, p.2.1.seq, by rw [← p.1.2.length, ← p.2.2.length]; exact zipD_end hl⟩⟩
    obtain ⟨x, y, hx, hy, rfl⟩ := zipD_get hd
    obtain ⟨v, e1, e2⟩ := p.1.2.get (i := i) hx
    obtain ⟨w, e3, e4⟩ := p.2.2.get (i := i) hy
    refine ⟨⟨vs, ws, v, w, p.1.1.seq, p.2.1.seq, e1, e3⟩, fun x H' y => ?_⟩
    obtain ⟨T, x', y', rfl, hT, e, y1, y2⟩ := y
    have z := y1 vs p.1.1.seq
    rw [e1] at z
    cases z
    have z := y2 ws p.2.1.seq
    rw [e3] at z
    cases z
    exact ⟨up_T hT e, by rw [e]; exact pair_R s hT e2 e4⟩⟩
theorem it_zipL {K Tb H μ ν a b vs ds ws es} (h1 : AtS K H μ ν a vs) (h2 : Rs K H μ ν ds vs) (h3 : AtS K H μ ν b ws) (h4 : Rs K H μ ν es ws) : ItOk K Tb (L2.Itz K a b) (.fix (zipD ds es)) H μ ν :=
  ⟨fun H μ ν => (AtS K H μ ν a vs ∧ Rs K H μ ν ds vs) ∧ AtS K H μ ν b ws ∧ Rs K H μ ν es ws, ⟨⟨h1, h2⟩, h3, h4⟩, fun p e => ⟨⟨p.1.1.ext e, p.1.2.ext e⟩, p.2.1.ext e, p.2.2.ext e⟩, fun p e => ⟨⟨p.1.1.aside e, p.1.2.aside e⟩, p.2.1.aside e, p.2.2.aside e⟩, fun p hp hq => ⟨⟨p.1.1.wr hp, p.1.2.wr hp hq⟩, p.2.1.wr hp, p.2.2.wr hp hq⟩, fun {H μ ν M} p s i => by
    refine ⟨fun d hd => ?_, fun hl => ⟨vs, ws, p.1.1.seq, p.2.1.seq, by rw [← p.1.2.length, ← p.2.2.length]; exact zipD_end hl⟩⟩
    obtain ⟨x, y, hx, hy, rfl⟩ := zipD_get hd
    obtain ⟨v, e1, e2⟩ := p.1.2.get (i := i) hx
    obtain ⟨w, e3, e4⟩ := p.2.2.get (i := i) hy
    refine ⟨⟨vs, ws, v, w, p.1.1.seq, p.2.1.seq, e1, e3⟩, fun x H' y => ?_⟩
    obtain ⟨T, x', y', rfl, hT, e, y1, y2⟩ := y
    have z := y1 vs p.1.1.seq
    rw [e1] at z
    cases z
    have z := y2 ws p.2.1.seq
    rw [e3] at z
    cases z
    exact ⟨up_T hT e, by rw [e]; exact pair_R s hT e2 e4⟩⟩
section
variable {X : Cx} {S : Side} {W : WX} {l l2 : Expr} {f f2 : Env → Mem → Res D} {p pos tpos : Pos} {elts : List Expr} {kk : Nat} {fs : Env → Mem → Res (List D)}
def gEn : List D → Mem → Res Src := fun ds M => match ds with
  | [.tup ds] => .ok (.fix (enD ds)) M
  | [.lst ds] => .ok (.fix (enD ds)) M
  | [.scr ds] => .ok (.fix (enD ds)) M
  | _ => .stuck
def fItB (g : List D → Mem → Res Src) (fs : Env → Mem → Res (List D)) : Env → Mem → Res Src := fun ρ M => (fs ρ M).bind g
theorem ci_enum (hg : Gl X "enumerate") (hm : X.mg "enumerate" = none) (ha : PA X [l] (TL X.K S W fs)) (hs : starEach [l] X.env = [(false, eval l X.env)] := by rfl) : PI X (.Tuple elts kk tpos) (.Call (.Name "enumerate" p) [l] [] pos) (TIc X.K S W (fItB gEn fs)) :=
  L2.PI.imp (L2.PI.or (pi_enum (elts := elts) (kk := kk) (tpos := tpos) (p := p) (pos := pos) hg hm ha hs) (pi_enumT (elts := elts) (kk := kk) (tpos := tpos) hg hm ha hs)) fun σ H Q h => by
    obtain ⟨ρ, μ, ν, M, j, e, s, o⟩ := h
    unfold fItB at o
    cases q : fs ρ M with
    | exn x M1 =>
      rw [q] at o
      exact .inl ⟨ρ, μ, ν, M, j, e, s, by rw [q]; exact o⟩
    | stuck => rw [q] at o; exact o.elim
    | ok ds M1 =>
      rw [q] at o
      have o : Ok X.K S.Tb W σ ν (rI X.K S.Tb) H μ Q (gEn ds M1) := o
      unfold gEn at o
      split at o
      · refine .inr ⟨ρ, μ, ν, M, j, e, s, ?_⟩
        rw [q]
        intro v H' μ' x r s'
        obtain ⟨v, rfl, rd⟩ := one_R r
        cases rd with
        | tup h1 h2 => exact ⟨_, _, rfl, h1.seq, o _ H' μ' x (it_enT h1 h2) s'⟩
      · refine .inl ⟨ρ, μ, ν, M, j, e, s, ?_⟩
        rw [q]
        intro v H' μ' x r s'
        obtain ⟨v, rfl, rd⟩ := one_R r
        cases rd with
        | lst h1 h2 => exact ⟨_, _, rfl, .inl (.inl h1.1), o _ H' μ' x (it_enL (.inl ⟨.inl h1.1, h1.2⟩) h2) s'⟩
      · refine .inl ⟨ρ, μ, ν, M, j, e, s, ?_⟩
        rw [q]
        intro v H' μ' x r s'
        obtain ⟨v, rfl, rd⟩ := one_R r
        cases rd with
        | scr h1 h2 => exact ⟨_, _, rfl, h1.seq, o _ H' μ' x (it_enL h1 h2) s'⟩
      · exact o.elim
def gZip : List D → Mem → Res Src := fun ds M => match ds with
  | [.tup ds, .tup es] => .ok (.fix (zipD ds es)) M
  | [.lst ds, .lst es] => .ok (.fix (zipD ds es)) M
  | _ => .stuck
theorem ci_zip (hg : Gl X "zip") (hm : X.mg "zip" = none) (ha : PA X [l, l2] (TL X.K S W fs)) (hs : starEach [l, l2] X.env = (false, eval l X.env) :: starEach [l2] X.env := by rfl) (hpl : (backTo pos (starEach [l2] X.env)).any (·.1) = false := by rfl) :
    PI X (.Tuple elts kk tpos) (.Call (.Name "zip" p) [l, l2] [] pos) (TIc X.K S W (fItB gZip fs)) :=
  L2.PI.imp (RZ.pi_zipA (elts := elts) (kk := kk) (tpos := tpos) hg hm ha hs hpl) fun σ H Q h => by
    obtain ⟨ρ, μ, ν, M, j, e, s, o⟩ := h
    unfold fItB at o
    refine ⟨ρ, μ, ν, M, j, e, s, ?_⟩
    cases q : fs ρ M with
    | exn x M1 => rw [q] at o; exact o
    | stuck => rw [q] at o; exact o.elim
    | ok ds M1 =>
      rw [q] at o
      have o : Ok X.K S.Tb W σ ν (rI X.K S.Tb) H μ Q (gZip ds M1) := o
      unfold gZip at o
      intro v H' μ' x r s'
      split at o
      · obtain ⟨v, w, rfl, rd, re⟩ := two_R r
        cases rd with
        | tup h1 h2 =>
          cases re with
          | tup h3 h4 => exact ⟨_, _, _, _, rfl, .inr ⟨h1.seq, h3.seq, o _ H' μ' x (it_zipT h1 h2 h3 h4) s'⟩⟩
      · obtain ⟨v, w, rfl, rd, re⟩ := two_R r
        cases rd with
        | lst h1 h2 =>
          cases re with
          | lst h3 h4 => exact ⟨_, _, _, _, rfl, .inl ⟨.inl (.inl h1.1), .inl (.inl h3.1), o _ H' μ' x (it_zipL (.inl ⟨.inl h1.1, h1.2⟩) h2 (.inl ⟨.inl h3.1, h3.2⟩) h4) s'⟩⟩
      · exact o.elim
end
end SD

set_option Elab.async false
set_option linter.all false
set_option maxRecDepth 100000
set_option maxHeartbeats 4000000
namespace SD
open PySem PySem.Spec PyProof.Rows L2
/-! ### sorted of a tuple of ints -/
section
open SrtO Srt
theorem sorted_ordT {prog : Program} {w : World} {A : Around} {E : Value → Shared → Prop} {s : Shared} {l : Addr} {vs : List Value} {ltv : Value → Value → Bool} {Q : Value → Shared → Prop} (O : Swo ltv) (hl : s.heap.IsTuple l vs.toArray) (hz : vs.length ≤ sizeLine)
    (hS : 2 ≤ vs.length → ∀ (h₁ : Heap) (a : Addr), SortableO prog w A.in1.in1 { s with heap := h₁ } a vs ltv)
    (h : ∀ (h' : Heap) (out : List Value), (∀ b o, s.heap.get? b = some o → h'.get? b = some o) → Srtd ltv out → Stb ltv out vs → Q (.ref h'.objs.size) { s with heap := sortedHeap (h'.push (seqObj "list" vs.toArray 0)) h'.objs.size vs out.toArray }) :
    wpAny (model prog w) A (call (.builtin "sorted") [.ref l]) Q E s := by
  obtain ⟨o, ho, hc, n, hd⟩ := hl
  refine Calls.call_function_entry kind_sorted plain_sorted entry_sorted (args_sorted1 _) ?_
  unfold Builtin.«sorted»
  refine wpAny_bind (m := checkCount "sorted" 1 1 _) (wpAny_pure ?_)
  refine wpAny_bind (wpAny_collect_seq l (.inr rfl) ho hc hd (fun h' hk => ?_) (by rw [List.size_toArray]; exact hz))
  have hoL : (h'.push (seqObj "list" vs.toArray 0)).get? h'.objs.size = some (seqObj "list" vs.toArray 0) := Heap.get?_push_size _ rfl
  refine wpAny_bind (wpAny_newList (s := { s with heap := h' }) ?_ (by simpa using hz))
  show wpAny _ _ _ _ _ { s with heap := h'.push (seqObj "list" vs.toArray 0) }
  refine wpAny_bind (wpAny_holding (wpAny_call_entry slot_list_sort ⟨_, hoL, rfl⟩ entry_list_sort (list_sort_ord O hoL hz (fun h2 => hS h2 _ _) fun out hs hb => ⟨_, rfl, ?_⟩) (args_list_sort _)))
  exact wpAny_pure ⟨_, rfl, h h' out hk hs hb⟩
end
def rSortedIT (K : PySem.W.Frag) : List V → Hp → VK → Prop := fun vs H Q => ∃ (a : Addr) (ns : List Int), vs = [V.ref a] ∧ SqT K H a (ns.map V.int) ∧
  ∀ (ns' : List Int) (p : Addr), ns'.Perm ns → ns'.Pairwise (· ≤ ·) → H p = none → Q (.ref p) (upd H p (.lst (ns'.map V.int)))
theorem cr_sortedIT {X : Cx} : CallR X (.builtin "sorted") (rSortedIT X.K) := by
  intro pins s σ H vs us Q I r h
  obtain ⟨a, ns, rfl, hs, q⟩ := h
  obtain ⟨its, rv, hl, hz⟩ := I.tuple hs
  rw [Vals.ref1 r]
  have hi := rv.ints
  refine sorted_ordT SrtO.swo_int (show s.heap.IsTuple a its.toArray from hl) (by rw [← rv.length]; exact hz) (fun h2 h₁ a' => SrtO.ints_sortable hi h2) fun h' out hk h1 h2 => ?_
  obtain ⟨k1, k2, k3⟩ := SrtO.ints_out hi h1 h2
  have I2 : Inv X pins σ H { s with heap := h' } := I.kept (t' := s.toks) hk
  have old : ∀ b o, h'.get? b = some o → (sortedHeap (h'.push (seqObj "list" its.toArray 0)) h'.objs.size its out.toArray).get? b = some o := fun b o e => by
    have hb : b < h'.objs.size := Heap.lt_size e
    rw [sortedHeap_old (Nat.ne_of_lt hb) (by rw [Heap.size_push]; exact Nat.lt_succ_of_lt hb)]
    exact Heap.get?_push_of_some _ e
  obtain ⟨ep, he'⟩ := PyProof.Rows.sortedHeap_at (vs := its) (out := out.toArray) (Heap.get?_push_size h' (o := seqObj "list" its.toArray 0) rfl)
  have hlen : ((out.map SrtO.iv).map V.int).length ≤ sizeLine := by
    rw [List.length_map, k2.length_eq]
    rw [List.length_map] at hz
    exact hz
  exact ⟨.ref _, upd H h'.objs.size (.lst ((out.map SrtO.iv).map V.int)), I2.laid (t' := s.toks) old (Nat.le_refl _) ⟨hlen, out, ep, vals_of_ints k1, he'⟩, rfl, q _ _ k2 k3 (I2.hok.fresh (Nat.le_refl _))⟩
def intsOfD : List D → Option (List Int)
  | [] => some []
  | .int i :: r => match intsOfD r with
    | some ns => some (i :: ns)
    | none => none
  | _ :: _ => none
theorem intsOfD_R {K H μ ν} : ∀ {ds : List D} {vs : List V} {ns : List Int}, Rs K H μ ν ds vs → intsOfD ds = some ns → vs = ns.map V.int
  | _, _, _, .nil, h => by cases h; rfl
  | _, _, _, .cons r t, h => by
    cases r with
    | int b =>
      unfold intsOfD at h
      split at h
      · rename_i q
        cases h
        rw [intsOfD_R t q]
        rfl
      · cases h
    | _ => cases h
theorem ints_R {K H μ ν} : ∀ ns : List Int, Rs K H μ ν (ns.map D.int) (ns.map V.int)
  | [] => .nil
  | n :: ns => .cons (.int n) (ints_R ns)
def insI (x : Int) : List Int → List Int
  | [] => [x]
  | y :: r => if x ≤ y then x :: y :: r else y :: insI x r
def srtI : List Int → List Int
  | [] => []
  | x :: r => insI x (srtI r)
theorem insI_perm (x : Int) : ∀ l, (insI x l).Perm (x :: l)
  | [] => .refl _
  | y :: r => by
    unfold insI
    split
    · exact .refl _
    · exact ((insI_perm x r).cons y).trans (.swap x y r)
theorem insI_srt {x : Int} : ∀ {l : List Int}, l.Pairwise (· ≤ ·) → (insI x l).Pairwise (· ≤ ·)
  | [], _ => by simp [insI]
  | y :: r, h => by
    unfold insI
    have h1 := List.pairwise_cons.mp h
    split
    · rename_i hxy
      refine List.pairwise_cons.mpr ⟨fun z hz => ?_, h⟩
      rcases List.mem_cons.mp hz with e | e
      · rw [e]; exact hxy
      · exact Int.le_trans hxy (h1.1 z e)
    · rename_i hxy
      refine List.pairwise_cons.mpr ⟨fun z hz => ?_, insI_srt h1.2⟩
      rcases List.mem_cons.mp ((insI_perm x r).mem_iff.mp hz) with e | e
      · rw [e]; omega
      · exact h1.1 z e
theorem srtI_perm : ∀ l, (srtI l).Perm l
  | [] => .refl _
  | x :: r => (insI_perm x _).trans ((srtI_perm r).cons x)
theorem srtI_srt : ∀ l, (srtI l).Pairwise (· ≤ ·)
  | [] => .nil
  | x :: r => insI_srt (srtI_srt r)
theorem srt_eq : ∀ {a b : List Int}, a.Perm b → a.Pairwise (· ≤ ·) → b.Pairwise (· ≤ ·) → a = b := fun {a b} hp ha hb =>
  List.Perm.eq_of_pairwise (le := (· ≤ ·)) (fun x y _ _ h1 h2 => Int.le_antisymm h1 h2) ha hb hp
/-- sorted(xs): ints alone -/
def gSrt : List D → Mem → Res (List D) := fun ds M => match ds with
  | [.tup xs] => match intsOfD xs with
    | some ns => .ok ((srtI ns).map D.int) M
    | none => .stuck
  | [d] => match lstOf M d with
    | some xs => match intsOfD xs with
      | some ns => .ok ((srtI ns).map D.int) M
      | none => .stuck
    | none => .stuck
  | _ => .stuck
theorem cn_sorted {X : Cx} {S : Side} : CallR X (.builtin "sorted") (rCN X.K S.Tb gSrt) := CallR.imp (CallR.or cr_sortedI cr_sortedIT) fun vs H Q h => by
  obtain ⟨W, σ, ds, μ, ν, M, rs, s, o⟩ := h
  unfold gSrt at o
  split at o
  · obtain ⟨v, rfl, rd⟩ := one_R rs
    cases rd with
    | tup h1 h2 =>
      rename_i xs a vs
      cases q : intsOfD xs with
      | none => rw [q] at o; exact o.elim
      | some ns =>
        rw [q] at o
        have e := intsOfD_R h2 q
        subst e
        refine .inr ⟨a, ns, rfl, h1.seq, fun ns' p hp hs hn => ?_⟩
        rw [srt_eq (hp.trans (srtI_perm ns).symm) hs (srtI_srt ns)]
        exact o.new (ints_R _) s hn
  · obtain ⟨v, rfl, rd⟩ := one_R rs
    rename_i d _
    cases q0 : lstOf M d with
    | none => rw [q0] at o; exact o.elim
    | some xs =>
      rw [q0] at o
      simp only at o
      cases q : intsOfD xs with
      | none => rw [q] at o; exact o.elim
      | some ns =>
        rw [q] at o
        obtain ⟨a, ws, rfl, h1, h2⟩ := lstOf_at rd s q0
        have e := intsOfD_R h2 q
        subst e
        refine .inl ⟨a, ns, rfl, .inl (.inl h1), fun ns' p hp hs hn => ?_⟩
        rw [srt_eq (hp.trans (srtI_perm ns).symm) hs (srtI_srt ns)]
        exact o.new (ints_R _) s hn
  · exact o.elim
end SD

set_option Elab.async false
set_option linter.all false
set_option maxRecDepth 100000
set_option maxHeartbeats 4000000
namespace SD
open PySem PySem.Spec PyProof.Rows L2
/-! ### sorted(set(xs)), xs a list of tuples of ints in [0, 64), of one length -/
theorem code_inj : ∀ {a b : List Int}, a.length = b.length → TS.Bd 64 a → TS.Bd 64 b → TS.code 64 a = TS.code 64 b → a = b
  | [], [], _, _, _, _ => rfl
  | [], _ :: _, h, _, _, _ => by cases h
  | _ :: _, [], h, _, _, _ => by cases h
  | x :: a, y :: b, h, ha, hb, e => by
    have hl : a.length = b.length := Nat.succ.inj h
    rcases Int.lt_trichotomy x y with c | c | c
    · have := TS.code_lt (d := x) (e := y) hl ha.tail hb.tail c
      omega
    · subst c
      have e2 : TS.code 64 a = TS.code 64 b := by
        have e' : x * 64 ^ a.length + TS.code 64 a = x * 64 ^ b.length + TS.code 64 b := e
        rw [hl] at e'
        exact Int.add_left_cancel e'
      rw [code_inj hl ha.tail hb.tail e2]
    · have := TS.code_lt (d := y) (e := x) hl.symm hb.tail ha.tail c
      omega
def insT (x : List Int) : List (List Int) → List (List Int)
  | [] => [x]
  | y :: r => if TS.code 64 x < TS.code 64 y then x :: y :: r else if x = y then y :: r else y :: insT x r
def srtT : List (List Int) → List (List Int)
  | [] => []
  | x :: r => insT x (srtT r)
theorem insT_mem (x : List Int) : ∀ (l : List (List Int)) (z : List Int), z ∈ insT x l ↔ z = x ∨ z ∈ l
  | [], z => by simp [insT]
  | y :: r, z => by
    unfold insT
    split
    · simp
    · split
      · rename_i h
        subst h
        simp
      · simp only [List.mem_cons, insT_mem x r z]
        constructor
        · rintro (h | h | h)
          · exact .inr (.inl h)
          · exact .inl h
          · exact .inr (.inr h)
        · rintro (h | h | h)
          · exact .inr (.inl h)
          · exact .inl h
          · exact .inr (.inr h)
theorem srtT_mem : ∀ (l : List (List Int)) (z : List Int), z ∈ srtT l ↔ z ∈ l
  | [], z => by simp [srtT]
  | x :: r, z => by
    unfold srtT
    rw [insT_mem, srtT_mem r z, List.mem_cons]
abbrev GdT (n : Nat) (t : List Int) : Prop := t.length = n ∧ TS.Bd 64 t
theorem insT_srt {n : Nat} {x : List Int} (hx : GdT n x) : ∀ {l : List (List Int)}, (∀ t ∈ l, GdT n t) → l.Pairwise (fun a b => TS.code 64 a < TS.code 64 b) → (insT x l).Pairwise (fun a b => TS.code 64 a < TS.code 64 b)
  | [], _, _ => by simp [insT]
  | y :: r, hg, h => by
    have h1 := List.pairwise_cons.mp h
    unfold insT
    split
    · rename_i c
      refine List.pairwise_cons.mpr ⟨fun z hz => ?_, h⟩
      rcases List.mem_cons.mp hz with e | e
      · rw [e]; exact c
      · have := h1.1 z e
        omega
    · rename_i c
      split
      · exact h
      · rename_i ne
        refine List.pairwise_cons.mpr ⟨fun z hz => ?_, insT_srt hx (fun t ht => hg t (List.mem_cons_of_mem _ ht)) h1.2⟩
        rcases (insT_mem x r z).mp hz with e | e
        · rw [e]
          have hy := hg y List.mem_cons_self
          have : TS.code 64 x ≠ TS.code 64 y := fun z => ne (code_inj (hx.1.trans hy.1.symm) hx.2 hy.2 z)
          omega
        · exact h1.1 z e
theorem srtT_srt {n : Nat} : ∀ {l : List (List Int)}, (∀ t ∈ l, GdT n t) → (srtT l).Pairwise (fun a b => TS.code 64 a < TS.code 64 b)
  | [], _ => .nil
  | x :: r, h => insT_srt (h x List.mem_cons_self) (fun t ht => h t (List.mem_cons_of_mem _ ((srtT_mem r t).mp ht))) (srtT_srt fun t ht => h t (List.mem_cons_of_mem _ ht))
theorem srtT_eq {n : Nat} {l m : List (List Int)} (hg : ∀ t ∈ l, GdT n t) (hm : ∀ z, z ∈ m ↔ z ∈ l) (hn : m.Nodup) (hp : m.Pairwise (fun a b => TS.code 64 a ≤ TS.code 64 b)) : m = srtT l := by
  have hs := srtT_srt hg
  have hn2 : (srtT l).Nodup := hs.imp fun {a b} h e => by rw [e] at h; omega
  refine List.Perm.eq_of_pairwise (le := fun a b => TS.code 64 a ≤ TS.code 64 b) (fun a b ha hb h1 h2 => ?_) hp (hs.imp fun {a b} h => Int.le_of_lt h) ((List.perm_ext_iff_of_nodup hn hn2).mpr fun z => (hm z).trans (srtT_mem l z).symm)
  have g1 := hg a ((hm a).mp ha)
  have g2 := hg b ((srtT_mem l b).mp hb)
  exact code_inj (g1.1.trans g2.1.symm) g1.2 g2.2 (by omega)
def itupsOf : List D → Option (List (List Int))
  | [] => some []
  | .tup ds :: r => match intsOfD ds with
    | some ns => match itupsOf r with
      | some ts => some (ns :: ts)
      | none => none
    | none => none
  | _ :: _ => none
theorem itups_R {K : PySem.W.Frag} {H : Hp} {μ ν : List Addr} : ∀ {ds : List D} {vs : List V} {ts : List (List Int)}, Rs K H μ ν ds vs → itupsOf ds = some ts → ∃ ks : List (Addr × List Int), vs = ks.map (fun p => V.ref p.1) ∧ ts = ks.map (·.2) ∧ ∀ p ∈ ks, AtT K H μ ν p.1 (p.2.map V.int)
  | _, _, _, .nil, h => by cases h; exact ⟨[], rfl, rfl, fun p z => absurd z (by simp)⟩
  | _, _, _, .cons r t, h => by
    cases r with
    | tup h1 h2 =>
      rename_i a vs' ds'
      unfold itupsOf at h
      cases q : intsOfD ds' with
      | none => rw [q] at h; cases h
      | some ns =>
        rw [q] at h
        simp only at h
        split at h
        · rename_i ts' q2
          cases h
          obtain ⟨ks, e1, e2, e3⟩ := itups_R t q2
          have e := intsOfD_R h2 q
          subst e
          refine ⟨(a, ns) :: ks, by rw [e1]; rfl, by rw [e2]; rfl, fun p hp => ?_⟩
          rcases List.mem_cons.mp hp with z | z
          · rw [z]; exact h1
          · exact e3 p z
        · cases h
    | _ => cases h
def lenT : List (List Int) → Nat
  | [] => 1
  | t :: _ => t.length
def okT (ts : List (List Int)) : Bool := decide (ts.length < 64) && decide (1 ≤ lenT ts) && ts.all fun t => decide (t.length = lenT ts) && t.all fun m => decide (0 ≤ m) && decide (m < 64)
theorem okT_gd {ts : List (List Int)} (h : okT ts = true) : ts.length < 64 ∧ 1 ≤ lenT ts ∧ ∀ t ∈ ts, GdT (lenT ts) t := by
  unfold okT at h
  simp only [Bool.and_eq_true, decide_eq_true_eq, List.all_eq_true] at h
  exact ⟨h.1.1, h.1.2, fun t ht => ⟨(h.2 t ht).1, fun m hm => (h.2 t ht).2 m hm⟩⟩
def gSS : D → Mem → Res (List D) := fun d M => match lstOf M d with
  | some xs => match itupsOf xs with
    | some ts => if okT ts = true then .ok ((srtT ts).map fun t => D.tup (t.map D.int)) M else .stuck
    | none => .stuck
  | none => .stuck
def fGoN (g : D → Mem → Res (List D)) (f : Env → Mem → Res D) : Env → Mem → Res (List D) := fun ρ M => (f ρ M).bind g
section
variable {X : Cx} {S : Side} {W : WX} {e : Expr} {f : Env → Mem → Res D} {p p2 pos q : Pos}
theorem c_sortSet (hc : X.calm = true) (hu : X.A.units + 64 < cLine) (hg : Gl X "sorted") (hm : X.mg "sorted" = none) (hg2 : Gl X "set") (hm2 : X.mg "set" = none) (he : PE X e (T X.K S W f))
    (hs : starEach [e] X.env = (false, eval e X.env) :: starEach [] X.env := by rfl) (hs2 : starEach [.Call (.Name "set" p2) [e] [] q] X.env = (false, eval (.Call (.Name "set" p2) [e] [] q) X.env) :: starEach [] X.env := by rfl)
    (hpl : (backTo q (starEach [] X.env)).any (·.1) = false := by rfl) (hpl2 : (backTo pos (starEach [] X.env)).any (·.1) = false := by rfl) :
    PE X (.Call (.Name "sorted" p) [.Call (.Name "set" p2) [e] [] q] [] pos) (TN X.K S W (fGoN gSS f)) :=
  (pe_callB (cr_sortedT hc) hg hm PyProof.Rows.boot_sorted (pa_cons (pe_callTy (cr_setOfT hc hu) hg2 hm2 PyProof.Rows.boot_set (pa_cons he pa_nil hs) (by decide) (by decide) hs hpl) pa_nil hs2) (by decide) (by decide) hs2 hpl2).imp fun σ H Q h =>
    TN.bind (k := fun _ => gSS) h fun ρ μ ν M d x H1 j e s rd o => by
      unfold gSS at o
      cases q : lstOf M d with
      | none => rw [q] at o; exact o.elim
      | some xs =>
        rw [q] at o
        simp only at o
        cases q2 : itupsOf xs with
        | none => rw [q2] at o; exact o.elim
        | some ts =>
          rw [q2] at o
          simp only at o
          by_cases hk : okT ts = true
          · rw [if_pos hk] at o
            obtain ⟨k1, k2, k3⟩ := okT_gd hk
            obtain ⟨l, vs, rfl, h1, h2⟩ := lstOf_at rd s q
            obtain ⟨ks, e1, e2, e3⟩ := itups_R h2 q2
            subst e1
            refine ⟨l, ks, rfl, .inl (.inl h1), fun p hp => (e3 p hp).seq, by rw [e2, List.length_map] at k1; exact k1, fun a L ha hL hL2 => ?_⟩
            have xx : Ext H1 μ (upd H1 a (SetTO X.prog X.w a L)) μ := ext_fresh ha (s.notin ha)
            have s' := s.up (up_fresh (o := SetTO X.prog X.w a L) ha)
            have hin : ∀ p ∈ L, AtT X.K (upd H1 a (SetTO X.prog X.w a L)) μ ν p.1 (p.2.map V.int) := fun p hp => (e3 p (hL p hp)).ext xx
            refine ⟨a, L, lenT ts, 64, rfl, upd_same, fun p hp => (hin p hp).seq, k2, fun p hp => k3 p.2 (by rw [e2]; exact List.mem_map_of_mem (hL p hp)), fun L' p hperm hnd h64 hpw hp => ?_⟩
            have hmem : ∀ z, z ∈ L'.map (·.2) ↔ z ∈ ts := fun z => by
              rw [(hperm.map (·.2)).mem_iff, e2]
              constructor
              · intro hz
                obtain ⟨p, hp, rfl⟩ := List.mem_map.mp hz
                exact List.mem_map_of_mem (hL p hp)
              · intro hz
                obtain ⟨p, hp, rfl⟩ := List.mem_map.mp hz
                exact hL2 p hp
            have eq : L'.map (·.2) = srtT ts := srtT_eq k3 hmem hnd (List.pairwise_map.mpr hpw)
            rw [← eq] at o
            have rr : Rs X.K (upd H1 a (SetTO X.prog X.w a L)) μ ν ((L'.map (·.2)).map fun t => D.tup (t.map D.int)) (L'.map fun q => V.ref q.1) := by
              have key : ∀ M : List (Addr × List Int), (∀ p ∈ M, p ∈ L) → Rs X.K (upd H1 a (SetTO X.prog X.w a L)) μ ν ((M.map (·.2)).map fun t => D.tup (t.map D.int)) (M.map fun q => V.ref q.1) := by
                intro M
                induction M with
                | nil => exact fun _ => .nil
                | cons z r ih => exact fun h => .cons (.tup (hin z (h z List.mem_cons_self)) (ints_R _)) (ih fun p hp => h p (List.mem_cons_of_mem _ hp))
              exact key L' fun p hp => hperm.mem_iff.mp hp
            exact OkN.new (OkN.ext o xx) rr s' hp
          · rw [if_neg hk] at o
            exact o.elim
end
end SD

set_option Elab.async false
set_option linter.all false
set_option maxRecDepth 100000
set_option maxHeartbeats 4000000
namespace SD
open PySem PySem.Spec PyProof.Rows L2
/-! ### len(set(xs)), ints -/
def distI : List Int → List Int
  | [] => []
  | n :: r => if n ∈ r then distI r else n :: distI r
theorem distI_mem : ∀ (l : List Int) (z : Int), z ∈ distI l ↔ z ∈ l
  | [], z => by simp [distI]
  | x :: r, z => by
    unfold distI
    split
    · rename_i h
      rw [distI_mem r z, List.mem_cons]
      constructor
      · exact .inr
      · rintro (e | e)
        · rw [e]; exact h
        · exact e
    · rw [List.mem_cons, List.mem_cons, distI_mem r z]
theorem distI_nodup : ∀ l : List Int, (distI l).Nodup
  | [] => .nil
  | x :: r => by
    unfold distI
    split
    · exact distI_nodup r
    · rename_i h
      exact List.nodup_cons.mpr ⟨fun z => h ((distI_mem r x).mp z), distI_nodup r⟩
theorem distI_len {l m : List Int} (hn : m.Nodup) (hm : ∀ z, z ∈ m ↔ z ∈ l) : m.length = (distI l).length :=
  ((List.perm_ext_iff_of_nodup hn (distI_nodup l)).mpr fun z => (hm z).trans (distI_mem l z).symm).length_eq
theorem firstMet_props (val : Nat → Int) : ∀ i, (firstMet val i).Nodup ∧ ∀ z, z ∈ firstMet val i ↔ ∃ j, j < i ∧ val j = z
  | 0 => ⟨by rw [firstMet_zero]; exact .nil, fun z => by rw [firstMet_zero]; simp⟩
  | i + 1 => by
    obtain ⟨h1, h2⟩ := firstMet_props val i
    rw [firstMet_succ]
    unfold step_dedup
    by_cases c : (firstMet val i).any (· == val i) = true
    · rw [if_pos c]
      refine ⟨h1, fun z => ?_⟩
      rw [h2]
      constructor
      · rintro ⟨j, hj, e⟩
        exact ⟨j, by omega, e⟩
      · rintro ⟨j, hj, e⟩
        by_cases hji : j = i
        · subst hji
          obtain ⟨y, hy, ey⟩ := List.any_eq_true.mp c
          have : y = val j := eq_of_beq ey
          rw [this] at hy
          rw [← e]
          exact (h2 (val j)).mp hy
        · exact ⟨j, by omega, e⟩
    · rw [if_neg c]
      have no : val i ∉ firstMet val i := fun z => c (List.any_eq_true.mpr ⟨val i, z, beq_self_eq_true _⟩)
      refine ⟨List.nodup_append.mpr ⟨h1, by simp, fun a ha b hb => ?_⟩, fun z => ?_⟩
      · rw [List.mem_singleton.mp hb]
        exact fun e => no (e ▸ ha)
      · rw [List.mem_append, h2, List.mem_singleton]
        constructor
        · rintro (⟨j, hj, e⟩ | e)
          · exact ⟨j, by omega, e⟩
          · exact ⟨i, by omega, e.symm⟩
        · rintro ⟨j, hj, e⟩
          by_cases hji : j = i
          · subst hji; exact .inr e.symm
          · exact .inl ⟨j, by omega, e⟩
theorem firstMet_len (ns : List Int) : (firstMet (fun i => ns.getD i 0) ns.length).length = (distI ns).length := by
  obtain ⟨h1, h2⟩ := firstMet_props (fun i => ns.getD i 0) ns.length
  refine distI_len h1 fun z => ?_
  rw [h2]
  constructor
  · rintro ⟨j, hj, e⟩
    rw [← e, List.getD_eq_getElem?_getD, List.getElem?_eq_getElem hj]
    exact List.getElem_mem hj
  · intro hz
    obtain ⟨j, hj, e⟩ := List.getElem_of_mem hz
    exact ⟨j, hj, by rw [List.getD_eq_getElem?_getD, List.getElem?_eq_getElem hj, ← e]; rfl⟩
def tLenSetC (K : PySem.W.Frag) (ta : TE) : TE := fun σ H Q => ta σ H fun x H1 => ∃ (l : Addr) (ns : List Int), x = .ref l ∧ (SqL K H1 l (ns.map V.int) ∨ SqT K H1 l (ns.map V.int)) ∧ ns.length ≤ 4000 ∧ Q (.int ((distI ns).length : Nat)) H1
theorem pe_lenSetC {X : Cx} {a : Expr} {ta : TE} {p p2 q pos : Pos} (hc : X.calm = true) (hg : Gl X "len") (hm : X.mg "len" = none) (hg2 : Gl X "set") (hm2 : X.mg "set" = none) (ha : PE X a ta)
    (na : starEach [a] X.env = (false, eval a X.env) :: starEach [] X.env := by rfl) : PE X (.Call (.Name "len" p) [.Call (.Name "set" p2) [a] [] q] [] pos) (tLenSetC X.K ta) := by
  refine ⟨fun pins s σ H Q I h => ?_⟩
  refine Call_ (ld_blt I hg hm boot_len ?_)
  refine PyProof.Rows.callWith_builtin1 (PyProof.Rows.args_cons ?_ rfl) rfl rfl
  refine Call_ (ld_blt I hg2 hm2 PyProof.Rows.boot_set ?_)
  refine PyProof.Rows.callWith_type1 (PyProof.Rows.args_cons (thn (ha.run pins s σ H _ I h) fun v s1 ⟨x, H1, I1, r1, q1⟩ => PyProof.Rows.args_nil ?_) na) na rfl
  obtain ⟨l, ns, rfl, hq, hl, q1⟩ := q1
  cases r1
  rcases hq with hq | hq
  · obtain ⟨its, r, pl, hz⟩ := I1.list hq
    have hlen : its.toArray.size = ns.length := by rw [List.size_toArray, ← r.length, List.length_map]
    refine call_set_list (I1.ok.hd hc) pl.isList (ns := ns) (by simpa using r.ints) (by rw [hlen]; unfold scanBound; omega) fun h' tk hS hk => ?_
    refine PyProof.Rows.args_nil ?_
    rw [hlen] at hS
    obtain ⟨o, es, ep, t, ho, hex, hd, _, _, _, hf, hn⟩ := hS
    rw [firstMet_len] at hn
    have I2 : Inv X pins σ H1 { s1 with heap := h', toks := tk } := I1.kept fun b o e => hk b o (Heap.lt_size e) e
    have hb : (distI ns).length ≤ 4000 := by
      rw [← firstMet_len]
      exact Nat.le_trans (firstMet_length_le _ _) hl
    exact call_len_set ho hex hd hf (by rw [hn] <;> omega) ⟨.int (distI ns).length, H1, I2.tok _, ⟨_, by rw [hn]⟩, q1⟩
  · obtain ⟨its, r, pl, hz⟩ := I1.tuple hq
    refine call_set_tupI ns (I1.ok.hd hc) (show s1.heap.IsTuple l its.toArray from pl) (by simpa using r.ints) (by unfold scanBound; omega) fun h' tk c hS hcl hk => ?_
    refine PyProof.Rows.args_nil ?_
    obtain ⟨o, es, ep, t, ho, hex, hd, _, hnd, hmem, _, hf, hn, _⟩ := hS
    have hc2 : c = (distI ns).length := by
      have : (es.toList.map keyOf).length = (distI ns).length := distI_len hnd fun z => by
        rw [← hmem z]
        simp
      rw [List.length_map, Array.length_toList, hn] at this
      exact this
    rw [hc2] at hn hcl
    have I2 : Inv X pins σ H1 { s1 with heap := h', toks := tk } := I1.kept hk
    exact call_len_set ho hex hd hf (by rw [hn] <;> omega) ⟨.int (distI ns).length, H1, I2.tok _, ⟨_, by rw [hn]⟩, q1⟩
def seqInts (M : Mem) (d : D) : Option (List Int) := match seqOf M d with
  | some ds => intsOfD ds
  | none => none
def gLenSet : D → Mem → Res D := fun d M => match seqInts M d with
  | some ns => if ns.length ≤ 4000 then .ok (.int ((distI ns).length : Nat)) M else .stuck
  | none => .stuck
section
variable {X : Cx} {S : Side} {W : WX} {e : Expr} {f : Env → Mem → Res D} {p p2 pos q : Pos}
theorem c_lenSet (hc : X.calm = true) (hg : Gl X "len") (hm : X.mg "len" = none) (hg2 : Gl X "set") (hm2 : X.mg "set" = none) (he : PE X e (T X.K S W f)) (hs : starEach [e] X.env = (false, eval e X.env) :: starEach [] X.env := by rfl) :
    PE X (.Call (.Name "len" p) [.Call (.Name "set" p2) [e] [] q] [] pos) (T X.K S W (fGo gLenSet f)) :=
  (pe_lenSetC hc hg hm hg2 hm2 he hs).imp fun σ H Q h => Tg.bind (k := fun _ => gLenSet) h fun ρ μ ν M d x H1 j e s rd o => by
    unfold gLenSet seqInts at o
    cases q : seqOf M d with
    | none => rw [q] at o; exact o.elim
    | some ds =>
      rw [q] at o
      simp only at o
      cases q2 : intsOfD ds with
      | none => rw [q2] at o; exact o.elim
      | some ns =>
        rw [q2] at o
        simp only at o
        by_cases hl : ns.length ≤ 4000
        · rw [if_pos hl] at o
          obtain ⟨a, vs, rfl, h3, h4⟩ := seqOf_at rd s q
          have e := intsOfD_R h4 q2
          subst e
          exact ⟨a, ns, rfl, h3, hl, Ok.flat o (.int _) s⟩
        · rw [if_neg hl] at o
          exact o.elim
end
/-! ### a, b = x, y -/
section
variable {X : Cx} {S : Side} {W : WX} {fs : Env → Mem → Res (List D)} {pos : Pos}
def fParN (i j : Nat) (fs : Env → Mem → Res (List D)) : Env → Mem → SRes := fun ρ M => (fs ρ M).toS ρ fun ds M1 => match ds with
  | [a, b] => .nx ((ρ.set i (some a)).set j (some b)) M1
  | _ => .stuck
theorem c_par {i j : Nat} {x y : Str} {a b : Expr} {px py pt : Pos} {kt k2 pt2} (hc : X.calm = true) (hN : X.N.Nodup) (hi : X.N[i]? = some x) (hj : X.N[j]? = some y) (hij : i ≠ j)
    (hx : X.env.scope.names.lookup x = some .local) (hy : X.env.scope.names.lookup y = some .local) (ha : PA X [a, b] (TL X.K S W fs))
    (hw : swappedStores [.Tuple [.Name x px, .Name y py] kt pt] (.Tuple [a, b] k2 pt2) X.env = pure (some [x, y]))
    (hs : swapsWithSole [.Tuple [.Name x px, .Name y py] kt pt] (.Tuple [a, b] k2 pt2) pos.line X.env = pure false := by rfl)
    (hi' : i ∉ S.fix := by kpt_turns) (hj' : j ∉ S.fix := by kpt_turns) :
    PS X (.Assign [.Tuple [.Name x px, .Name y py] kt pt] (.Tuple [a, b] k2 pt2) pos) (TSc X.K S W (fParN i j fs)) :=
  (ps_par hc hN hi hj hij hx hy ha hw hs).imp fun E σ H q => TSc.toS (k := fun ρ (ds : List D) M1 => match ds with
    | [a, b] => .nx ((ρ.set i (some a)).set j (some b)) M1
    | _ => .stuck) q fun ρ μ ν M ds vs H1 jj e s rs o => by
      match ds, rs, o with
      | [d1, d2], rs, o =>
        obtain ⟨v, w, rfl, r1, r2⟩ := two_R rs
        exact ⟨v, w, rfl, o _ H1 μ (Ext.refl _ _) ((Kp.set hi').trans (Kp.set hj')) ((e.set r1 i).set r2 j) s⟩
      | [], _, o => exact o.elim
      | [_], _, o => exact o.elim
      | _ :: _ :: _ :: _, _, o => exact o.elim
def fParN3 (i j l : Nat) (fs : Env → Mem → Res (List D)) : Env → Mem → SRes := fun ρ M => (fs ρ M).toS ρ fun ds M1 => match ds with
  | [a, b, c] => .nx (((ρ.set i (some a)).set j (some b)).set l (some c)) M1
  | _ => .stuck
theorem three_R {K : PySem.W.Frag} {H : Hp} {μ ν : List Addr} {d e f : D} {vs : List V} (r : Rs K H μ ν [d, e, f] vs) : ∃ u v w, vs = [u, v, w] ∧ R K H μ ν d u ∧ R K H μ ν e v ∧ R K H μ ν f w := by
  cases r with
  | cons h t =>
    obtain ⟨v, w, rfl, r1, r2⟩ := two_R t
    exact ⟨_, v, w, rfl, h, r1, r2⟩
theorem c_par3 {i j l : Nat} {x y z : Str} {a b c : Expr} {px py pz pt : Pos} {kt k2 pt2} (hc : X.calm = true) (hN : X.N.Nodup) (hi : X.N[i]? = some x) (hj : X.N[j]? = some y) (hl : X.N[l]? = some z) (hij : i ≠ j) (hil : i ≠ l) (hjl : j ≠ l)
    (hx : X.env.scope.names.lookup x = some .local) (hy : X.env.scope.names.lookup y = some .local) (hz : X.env.scope.names.lookup z = some .local) (ha : PA X [a, b, c] (TL X.K S W fs))
    (hw : swappedStores [.Tuple [.Name x px, .Name y py, .Name z pz] kt pt] (.Tuple [a, b, c] k2 pt2) X.env = pure (some [x, y, z]))
    (hs : swapsWithSole [.Tuple [.Name x px, .Name y py, .Name z pz] kt pt] (.Tuple [a, b, c] k2 pt2) pos.line X.env = pure false := by rfl)
    (hi' : i ∉ S.fix := by kpt_turns) (hj' : j ∉ S.fix := by kpt_turns) (hl' : l ∉ S.fix := by kpt_turns) :
    PS X (.Assign [.Tuple [.Name x px, .Name y py, .Name z pz] kt pt] (.Tuple [a, b, c] k2 pt2) pos) (TSc X.K S W (fParN3 i j l fs)) :=
  (ps_par3 hc hN hi hj hl hij hil hjl hx hy hz ha hw hs).imp fun E σ H q => TSc.toS (k := fun ρ (ds : List D) M1 => match ds with
    | [a, b, c] => .nx (((ρ.set i (some a)).set j (some b)).set l (some c)) M1
    | _ => .stuck) q fun ρ μ ν M ds vs H1 jj e s rs o => by
      match ds, rs, o with
      | [d1, d2, d3], rs, o =>
        obtain ⟨u, v, w, rfl, r1, r2, r3⟩ := three_R rs
        exact ⟨u, v, w, rfl, o _ H1 μ (Ext.refl _ _) (((Kp.set hi').trans (Kp.set hj')).trans (Kp.set hl')) (((e.set r1 i).set r2 j).set r3 l) s⟩
      | [], _, o => exact o.elim
      | [_], _, o => exact o.elim
      | [_, _], _, o => exact o.elim
      | _ :: _ :: _ :: _ :: _, _, o => exact o.elim
/-- o[i], o2[i2] = x, y -/
def fSetIx2 (fs : Env → Mem → Res (List D)) (fo fi fo2 fi2 : Env → Mem → Res D) : Env → Mem → SRes := fun ρ M => (fs ρ M).toS ρ fun ds M1 => match ds with
  | [v, w] => (fo ρ M1).toS ρ fun o M2 => (fi ρ M2).toS ρ fun i M3 => match setAt M3 o i v with
    | some M4 => (fo2 ρ M4).toS ρ fun o2 M5 => (fi2 ρ M5).toS ρ fun i2 M6 => match setAt M6 o2 i2 w with
      | some M7 => .nx ρ M7
      | none => .stuck
    | none => .stuck
  | _ => .stuck
variable {o i o2 i2 a b : Expr} {fo fi fo2 fi2 : Env → Mem → Res D}
theorem c_setIx2 {p1 p2 pt pt2 : Pos} {kt k2} (hc : X.calm = true) (ha : PA X [a, b] (TL X.K S W fs)) (ho : PE X o (T X.K S W fo)) (hi : PE X i (T X.K S W fi)) (ho2 : PE X o2 (T X.K S W fo2)) (hi2 : PE X i2 (T X.K S W fi2))
    (hs : swapsWithSole [.Tuple [.Subscript o i p1, .Subscript o2 i2 p2] kt pt] (.Tuple [a, b] k2 pt2) pos.line X.env = pure false := by rfl) (hw : swappedStores [.Tuple [.Subscript o i p1, .Subscript o2 i2 p2] kt pt] (.Tuple [a, b] k2 pt2) X.env = pure none := by rfl)
    (h1 : (assignEach [.Tuple [.Subscript o i p1, .Subscript o2 i2 p2] kt pt] X.env).map (·.2) = [assign (.Tuple [.Subscript o i p1, .Subscript o2 i2 p2] kt pt) X.env] := by rfl)
    (hn : (assignEach [.Subscript o i p1, .Subscript o2 i2 p2] X.env).length = 2 := by rfl) (hst : (assignEach [.Subscript o i p1, .Subscript o2 i2 p2] X.env).findIdx? (·.1) = none := by rfl)
    (hs1 : (assignEach [.Subscript o i p1, .Subscript o2 i2 p2] X.env).map (·.2) = assign (.Subscript o i p1) X.env :: (assignEach [.Subscript o2 i2 p2] X.env).map (·.2) := by rfl) (hs2 : (assignEach [.Subscript o2 i2 p2] X.env).map (·.2) = assign (.Subscript o2 i2 p2) X.env :: (assignEach [] X.env).map (·.2) := by rfl)
    (ha1 : ∀ v, assign (.Subscript o i p1) X.env v = (do
      let ov ← holding [v] (eval o X.env)
      let iv ← holding [v, ov] (eval i X.env)
      standAt p1
      holding [v, ov, iv] (setItem ov iv v)
      release [v, ov, iv] []) := by intro _; rfl)
    (ha2 : ∀ v, assign (.Subscript o2 i2 p2) X.env v = (do
      let ov ← holding [v] (eval o2 X.env)
      let iv ← holding [v, ov] (eval i2 X.env)
      standAt p2
      holding [v, ov, iv] (setItem ov iv v)
      release [v, ov, iv] []) := by intro _; rfl) :
    PS X (.Assign [.Tuple [.Subscript o i p1, .Subscript o2 i2 p2] kt pt] (.Tuple [a, b] k2 pt2) pos) (TSc X.K S W (fSetIx2 fs fo fi fo2 fi2)) :=
  (ps_asg (pe_tup ha) (pg_tup hc (pgs_cons (pg_sub ho hi set_list ha1) (pgs_cons (pg_sub ho2 hi2 set_list ha2) pgs_nil hs2) hs1) hn hst) hs hw h1).imp fun E σ H q => TSc.toS (k := fun ρ (ds : List D) M1 => match ds with
    | [v, w] => (fo ρ M1).toS ρ fun o M2 => (fi ρ M2).toS ρ fun i M3 => match setAt M3 o i v with
      | some M4 => (fo2 ρ M4).toS ρ fun o2 M5 => (fi2 ρ M5).toS ρ fun i2 M6 => match setAt M6 o2 i2 w with
        | some M7 => .nx ρ M7
        | none => .stuck
      | none => .stuck
    | _ => .stuck) q fun ρ μ ν M ds vs H1 jj e s rs o0 => by
      match ds, rs, o0 with
      | [d1, d2], rs, o0 =>
        obtain ⟨v, w, rfl, r1, r2⟩ := two_R rs
        refine ⟨by show 2 ≤ sizeLine; rw [sizeLine_eq]; omega, fun p hp => ?_⟩
        have x0 : Ext H1 μ (upd H1 p (.tup [v, w])) μ := ext_fresh hp (s.notin hp)
        have s0 := s.up (up_fresh (o := .tup [v, w]) hp)
        refine ⟨p, [v, w], rfl, .inl (.inl upd_same), rfl, v, [w], rfl, ρ, μ, ν, M, S.st jj x0, e.ext x0, s0, Ok.toS (e.ext x0) (OkS.ext o0 x0 .refl) fun o M2 y H2 μ2 x2 ro s2 o2 => ⟨ρ, μ2, ν, M2, S.st jj (x0.trans x2), e.ext (x0.trans x2), s2, Ok.toS (e.ext (x0.trans x2)) o2 fun i M3 z H3 μ3 x3 ri s3 o3 => ?_⟩⟩
        have x03 : Ext H1 μ H3 μ3 := x0.trans (x2.trans x3)
        cases q2 : setAt M3 o i d1 with
        | none => rw [q2] at o3; exact o3.elim
        | some M4 =>
          rw [q2] at o3
          refine setAt_out (ro.ext x3) ri (r1.ext x03) s3 q2 fun H4 x4 s4 => ?_
          have x04 := x03.trans x4
          refine ⟨w, [], rfl, ρ, μ3, ν, M4, S.st jj x04, e.ext x04, s4, Ok.toS (e.ext x04) (OkS.ext o3 x4 .refl) fun o5 M5 y5 H5 μ5 x5 ro5 s5 o5' => ⟨ρ, μ5, ν, M5, S.st jj (x04.trans x5), e.ext (x04.trans x5), s5, Ok.toS (e.ext (x04.trans x5)) o5' fun i6 M6 z6 H6 μ6 x6 ri6 s6 o6 => ?_⟩⟩
          have x06 : Ext H1 μ H6 μ6 := x04.trans (x5.trans x6)
          cases q7 : setAt M6 o5 i6 d2 with
          | none => rw [q7] at o6; exact o6.elim
          | some M7 =>
            rw [q7] at o6
            refine setAt_out (ro5.ext x6) ri6 (r2.ext x06) s6 q7 fun H7 x7 s7 => ?_
            exact ⟨rfl, o6 σ H7 μ6 x7 .refl (e.ext (x06.trans x7)) s7⟩
      | [], _, o => exact o.elim
      | [_], _, o => exact o.elim
      | _ :: _ :: _ :: _, _, o => exact o.elim
end
end SD

set_option Elab.async false
set_option linter.all false
set_option maxRecDepth 100000
set_option maxHeartbeats 4000000
namespace SD
open PySem PySem.Spec PyProof.Rows L2
/-! ### x = lambda: ..; .. x() .. -/
def lamS (S : Side) (i : Nat) (f c' : Addr) (q : Str) : Side where
  Tb := S.Tb
  fix := i :: S.fix
  J := fun H μ ν σ => S.J H μ ν σ ∧ σ[i]? = some (some (V.ref f)) ∧ H c' = some (LamX.CodeO c' q) ∧ c' ∉ μ
  st := fun h e => by
    obtain ⟨h1, h3, h4, h5⟩ := h
    obtain ⟨k1, k2⟩ := e.keep _ _ h4 h5 (fun ps z => by unfold LamX.CodeO at z; cases z)
    exact ⟨S.st h1 e, h3, k1, k2⟩
  mv := fun {H μ ν σ σ'} h k => ⟨S.mv h.1 fun j hj => k j (List.mem_cons_of_mem _ hj), (k i List.mem_cons_self).trans h.2.1, h.2.2⟩
end SD
local macro_rules | `(tactic| kpt_turns) => `(tactic| (intro h; simp [SD.lamS, SD.plainS] at h; done))
namespace SD
open PySem PySem.Spec PyProof.Rows L2
end SD
local macro_rules | `(tactic| kpt_turns) => `(tactic| (intro i hi; simp [SD.lamS, SD.plainS] at hi; subst hi; decide))
namespace SD
open PySem PySem.Spec PyProof.Rows L2
theorem lamS_any {S : Side} (h : S.AnyN) {i : Nat} {f c' : Addr} {q : Str} : (lamS S i f c' q).AnyN := fun z => ⟨h z.1, z.2⟩
end SD
local macro_rules | `(tactic| tbn_conj) => `(tactic| (apply SD.lamS_any; tbn_conj))
namespace SD
open PySem PySem.Spec PyProof.Rows L2
section
variable {X : Cx} {S : Side} {W : WX} {pins : List (Addr × Obj)} {σ : L2.St} {H : Hp} {s : Shared}
theorem inv_pin {f : Addr} {o : Obj} (hs : X.stack = X.env :: X.outer) (hf : X.env.frame = some X.env.locals) (I : L2.Inv X pins σ H s) (e : s.heap.get? f = some o) (na : H f = none) (out : f ∉ frs X.stack) (hd : ∀ v, o.data ≠ .cell v) :
    L2.Inv (X.tr ((f, o) :: (X.pn ++ pins)) X.xe) [] σ H s := by
  refine ⟨I.ok.toTry _ _, I.os, I.bare, I.base, I.loc, I.cell, I.free, I.freeC, fun p hp => ?_, I.hok, I.len⟩
  rw [List.append_nil] at hp
  rcases List.mem_cons.mp hp with z | z
  · subst z
    refine ⟨e, na, fun z => out ?_, fun hm => out ?_, hd⟩
    · rw [hs]
      exact List.mem_filterMap.mpr ⟨X.env, List.mem_cons_self, by rw [hf]; exact congrArg some z.symm⟩
    · obtain ⟨ev, h1, h2⟩ := List.mem_filterMap.mp hm
      rw [hs]
      exact List.mem_filterMap.mpr ⟨ev, List.mem_cons_of_mem _ h1, h2⟩
  · exact I.pin p z
theorem inv_unpin {z : Addr × Obj} {pn' : List (Addr × Obj)} {xe : Value → Shared → Prop} (I : L2.Inv (X.tr (z :: (X.pn ++ pins)) xe) pn' σ H s) (ok : X.Ok) : L2.Inv X pins σ H s :=
  ⟨ok, I.os, I.bare, I.base, I.loc, I.cell, I.free, I.freeC, fun p hp => I.pin p (List.mem_append_left _ (List.mem_cons_of_mem _ hp)), I.hok, I.len⟩
theorem takes_pin {z : Addr × Obj} (tk : Takes X W) (ok : X.Ok) : Takes (X.tr (z :: (X.pn ++ pins)) X.xe) W := fun u s' h => by
  obtain ⟨a, B, sI, pins', σ, H, cls, d, e, I, r⟩ := h
  exact tk u s' ⟨a, B, sI, pins, σ, H, cls, d, e, inv_unpin I ok, r⟩
theorem OkS.side {K : PySem.W.Frag} {S S' : Side} {W : WX} {ν : List Addr} {σ σ' : L2.St} {H : Hp} {μ : List Addr} {E : Ends} {r : SRes} (h : OkS K S W ν σ H μ E r) (ht : S'.Tb = S.Tb) (hk : ∀ σ2, Kp S'.fix σ' σ2 → Kp S.fix σ σ2) : OkS K S' W ν σ' H μ E r := by
  cases r with
  | nx ρ M => exact fun σ2 H2 μ2 e k r s => h σ2 H2 μ2 e (hk _ k) r (ht ▸ s)
  | bk ρ M => exact fun σ2 H2 μ2 e k r s => h σ2 H2 μ2 e (hk _ k) r (ht ▸ s)
  | ct ρ M => exact fun σ2 H2 μ2 e k r s => h σ2 H2 μ2 e (hk _ k) r (ht ▸ s)
  | rt d M => exact fun v H2 μ2 e r s => h v H2 μ2 e r (ht ▸ s)
  | exn x ρ M => exact fun c dd σ2 H2 μ2 e k r rx s => h c dd σ2 H2 μ2 e (hk _ k) r rx (ht ▸ s)
  | stuck => exact h
theorem c_later {f0 : Env → Mem → Res D} {i k : Nat} {x : Str} {f c' : Addr} {pm ctv : Value} {params : Arguments} {body : Expr} {scope : Scope} {p1 p2 : Pos} (hp : (f, lamO X params body scope pm c' ctv) ∈ X.pn) (hN : X.N[i]? = some x) (hv : Vis X.env.scope x)
    (tk : Takes X W) (hr : Room (k + 1) X.A) (L : LamX.LamS X.env.scope scope) (hbind : ∀ (q : Str) (cl : List (Str × Addr)) (pm cv ctv : Value), bindArgs (PySem.W.kla_fn "<lambda>" q params body scope cl pm cv ctv) ⟨[], []⟩ = pure [])
    (hbody : ∀ (A : Around) (outer : List PySem.Env) (s : Shared) (H : Hp) (E : XK) (f c' : Addr), Room k (A.deeper (LamX.lamEnv X scope s.heap.objs.size f c')) → PE (LamX.lamCx X A outer s H E scope f c') body (T X.K (plainS S.Tb) (WX0 E) f0))
    (hd : (x == ("__debug__" : Str)) = false := by decide) (hcd : (x == ("__classdict__" : Str)) = false := by decide) :
    PE X (.Call (.Name x p1) [] [] p2) (T X.K (lamS S i f c' (X.env.qual ++ "<lambda>")) W f0) := by
  refine ⟨fun pins s σ H Q I h => ?_⟩
  obtain ⟨ρ, μ, ν, M, ⟨j, js, jc, _⟩, e, sr, o⟩ := h
  refine wpAny_Call_Name_kw (thn ((pe_var (pos := p1) (i := i) hN hv hd hcd).run pins s σ H (fun v H1 => v = .ref f ∧ H1 = H) I ⟨.ref f, js, rfl, rfl⟩) fun u s1 ⟨v, H2, I2, r1, q1⟩ => ?_)
  obtain ⟨ev, eH⟩ := q1
  subst ev
  rw [eH] at I2
  obtain rfl : u = Value.ref f := r1
  have of1 : s1.heap.get? f = some (lamO X params body scope pm c' ctv) := (I2.pin _ (List.mem_append_left _ hp)).1
  refine PySem.W.callWith_F0 ⟨_, _, _, _, of1⟩ ?_
  have rc := lam_run (E := WE W σ) (tb := T X.K (plainS S.Tb) (WX0 (WE W σ)) f0) (Q := Q) I2 L I2.env0 hr (Un.refl ..) of1 jc (hbind _ _ _ _ _) (fun hr2 => hbody _ _ _ _ _ _ _ hr2) ⟨ρ, μ, ν, M, trivial, e, sr, by
    cases z : f0 ρ M with
    | ok d M' => rw [z] at o; exact o
    | exn x M' => rw [z] at o; exact o
    | stuck => rw [z] at o; exact o⟩
  refine wpAny_call (codeAny_mono rc fun r s2 hq => ?_)
  cases r with
  | error z => exact passAt tk σ pins H s1 z s2 I2 hq
  | ok fl =>
    cases fl with
    | ret u => exact I2.after hq
    | next => exact False.elim hq
    | brk => exact False.elim hq
    | cont => exact False.elim hq
/-- the block behind it knows the lambda -/
theorem c_lamLet {i : Nat} {x : Str} {c P : Addr} {g : Env → Mem → SRes} {params : Arguments} {body : Expr} {scope : Scope} {rest : List Stmt} {px lpos pos : Pos} (hst : X.stack = X.env :: X.outer) (hfr : X.env.frame = some X.env.locals) (hN : X.N.Nodup) (hi : X.N[i]? = some x) (hx : X.env.scope.names.lookup x = some .local) (tk : Takes X W)
    (TB : LamX.TabB X.base X.mg c P) (hcode : X.env.code = .ref c) (hmT : (P, X.env.qual ++ "<lambda>") ∈ S.Tb) (hu : ∀ p ∈ S.Tb, p.1 = P → p.2 = X.env.qual ++ "<lambda>") (L : LamX.LamS X.env.scope scope) (hdef : defaultsOf params X.env = ([], []))
    (hrest : ∀ (f c' : Addr) (pm ctv : Value) (pn : List (Addr × Obj)), (f, lamO X params body scope pm c' ctv) ∈ pn → Takes (X.tr pn X.xe) W → PSs (X.tr pn X.xe) rest (TSc X.K (lamS S i f c' (X.env.qual ++ "<lambda>")) W g))
    (hs : swapsWith (.Lambda params body scope lpos) (some (.Name x px)) pos.line X.env = pure false := by rfl) (hi' : i ∉ S.fix := by kpt_turns) :
    PSs X (.Assign [.Name x px] (.Lambda params body scope lpos) pos :: rest) (TSc X.K S W fun ρ M => g (ρ.set i none) M) := by
  refine ⟨fun pins s σ H D I h => ?_⟩
  obtain ⟨ρ, μ, ν, M, j, e, sr, o⟩ := h
  refine wpAny_execs_cons (wpAny_Assign_Name (LamX.lam_make2 I TB hcode hmT hu sr.tab hdef (L.has I.ok) fun f c' pm' ctv H1 s' I1 eN T1 hf hfn hfo hco => ?_) hs)
  refine store_ok2 (v := V.ref f) I1 hN hi (.inl hx) rfl (fun s2 I2 ⟨a, sb, ha⟩ => ?_) (.inr hx)
  have x1 : Ext H μ H1 μ := ext_of_extN eN
  have sr1 := sr.extN eN T1
  have hcm : c' ∉ μ := fun z => by
    obtain ⟨vs, q⟩ := sr1.mem z
    rw [hco] at q
    unfold LamX.CodeO at q
    cases q
  have fa : f ≠ a := fun z => by
    rcases ha with ha | ha
    · apply hfo
      rw [hst, z, ha]
      exact List.mem_filterMap.mpr ⟨X.env, List.mem_cons_self, hfr⟩
    · obtain ⟨v, oc, h1, h2⟩ := I1.cell x a ha
      rw [z, h1] at hf
      have hf' := Option.some.inj hf
      rw [hf'] at h2
      cases h2
  have hf2 : s2.heap.get? f = some (lamO X params body scope pm' c' ctv) := (sb.2 f fa).trans hf
  have I3 := inv_pin hst hfr I2 hf2 hfn hfo (fun v z => by cases z)
  have iρ : σ.length = ρ.length := e.len.symm
  have o2 : OkS X.K (lamS S i f c' (X.env.qual ++ "<lambda>")) W ν (σ.set i (some (V.ref f))) H1 μ D (g (ρ.set i none) M) :=
    OkS.side (S := S) (OkS.ext (r := g (ρ.set i none) M) o x1 (Kp.set (v := some (V.ref f)) hi')) rfl fun σ2 k j hj => k j (List.mem_cons_of_mem _ hj)
  have hiσ : i < σ.length := by rw [I.len]; exact (List.getElem?_eq_some_iff.mp hi).1
  have q := (hrest f c' pm' ctv _ List.mem_cons_self (takes_pin (pins := pins) (z := (f, lamO X params body scope pm' c' ctv)) tk I.ok)).run [] s2 (σ.set i (some (V.ref f))) H1 D I3
    ⟨ρ.set i none, μ, ν, M, ⟨S.mv (S.st j x1) (Kp.set hi'), List.getElem?_set_self hiσ, hco, hcm⟩, ⟨by simp [e.len], fun m d' hm => by
      by_cases hmi : i = m
      · subst hmi
        rw [List.getElem?_set_self (iρ ▸ hiσ)] at hm
        cases hm
      · rw [List.getElem?_set_ne hmi] at hm
        obtain ⟨v, h1, h2⟩ := (e.ext x1).at_ m d' hm
        exact ⟨v, by rw [List.getElem?_set_ne hmi]; exact h1, h2⟩⟩, sr1, o2⟩
  refine wpAny_mono q (fun fl s3 hq => ?_) fun z s3 hq => hq
  cases fl with
  | next =>
    obtain ⟨σ', H', I', q⟩ := hq
    exact ⟨σ', H', inv_unpin I' I.ok, q⟩
  | ret u =>
    obtain ⟨v, σ', H', I', r, q⟩ := hq
    exact ⟨v, σ', H', inv_unpin I' I.ok, r, q⟩
  | brk =>
    obtain ⟨σ', H', I', q⟩ := hq
    exact ⟨σ', H', inv_unpin I' I.ok, q⟩
  | cont =>
    obtain ⟨σ', H', I', q⟩ := hq
    exact ⟨σ', H', inv_unpin I' I.ok, q⟩
end
end SD

set_option Elab.async false
set_option linter.all false
set_option maxRecDepth 100000
set_option maxHeartbeats 4000000
namespace SD
open PySem PySem.Spec PyProof.Rows L2
/-- an own def, as its callers see it -/
def DefOk (P : Program) (w : World) (K : PySem.W.Frag) (mg : Str → Option Value) (base : Heap) (Tb : List (Addr × Str)) (k : Nat) (x : Str) (n : Nat) (m : List D → Mem → Res D) : Prop :=
  ∃ (f : Addr) (fd : FuncData) (ps : List Str), FnOk P w K mg base (L2.CX P w) k f fd ps (SpOf K Tb n m) ∧ mg x = some (.ref f) ∧ PySem.W.keepIn K (.ref f) = true ∧ Binds K fd ps []
section
variable {X : Cx} {S : Side} {W : WX} {e : Expr} {es : List Expr} {fs : Env → Mem → Res (List D)} {j k n : Nat} {x : Str} {m : List D → Mem → Res D} {p pos : Pos}
theorem c_call (F : DefOk X.prog X.w X.K X.mg X.base S.Tb k x n m) (hr : Room j X.A) (hj : k ≤ j) (hg : Gl X x) (tk : Takes X W)
    (ha : PA X (e :: es) (TL X.K S W fs)) (hdb : (x == ("__debug__" : Str)) = false := by decide) (he : starEach (e :: es) X.env = (false, eval e X.env) :: starEach es X.env := by rfl) (hpl : (backTo pos (starEach es X.env)).any (·.1) = false := by rfl) :
    PE X (.Call (.Name x p) (e :: es) [] pos) (T X.K S W (fFn n m fs)) := by
  obtain ⟨f, fd, ps, F, hm, hk, hb⟩ := F
  exact c_fn F (hr.mono hj) hg hm hk hb tk ha hdb he hpl
end
section
variable {P : Program} {w : World} {K : PySem.W.Frag} {mg : Str → Option Value} {base : Heap} {x : Str} {params : Arguments} {body : List Stmt} {scope : Scope} {fd : FuncData} {N ps : List Str} {k n : Nat} {Tb : List (Addr × Str)}
theorem d_ok {fd : FuncData} {f : Addr} (F : FunD K x x params body scope [] [] f fd) (hm : mg x = some (.ref f)) (S : FnScope N ps scope) {g : Env → Mem → SRes} (hn : ps.length = n)
    (hbd : ∀ (kV doc pm : Value) (an : Option Addr) (cdv ct : Value) (us : List Value), us.length = ps.length → bindArgs (PySem.W.fnOf x x params body scope .none kV doc pm an cdv ct) ⟨us, []⟩ = pure (ps.zip us))
    (hb : ∀ (cdv : Value) (A : Around) (outer : List PySem.Env) (s : Shared) (H : Hp) (E : XK), Room k (A.deeper (envOfC x scope s.heap.objs.size f cdv)) →
      PSs (cxOf (L2.CX P w) P w K mg base N x scope f cdv A outer s H E) body (TSc K (plainS Tb) (WX0 E) g)) :
    DefOk P w K mg base Tb (k + 1) x n (mOf N.length g) := by
  exact ⟨f, fd, ps, hn ▸ def_ok F S hb, hm, F.kp, F.bindsN hbd⟩
end
end SD

set_option Elab.async false
set_option linter.all false
set_option maxRecDepth 100000
set_option maxHeartbeats 4000000
namespace SD
open PySem PySem.Spec PyProof.Rows L2
theorem own_cx {P : Program} {w : World} {K : PySem.W.Frag} {mg : Str → Option Value} {base : Heap} {N : List Str} {x : Str} {scope : Scope} {f : Addr} {cdv : Value} {A : Around} {outer : List PySem.Env} {s : Shared} {H : Hp} {E : XK} :
  PassesOwn (model P w) (cxOf (L2.CX P w) P w K mg base N x scope f cdv A outer s H E).A (cxOf (L2.CX P w) P w K mg base N x scope f cdv A outer s H E).env (cxOf (L2.CX P w) P w K mg base N x scope f cdv A outer s H E).xe := passes_of rfl
theorem tk_cx {P : Program} {w : World} {K : PySem.W.Frag} {mg : Str → Option Value} {base : Heap} {N : List Str} {x : Str} {scope : Scope} {f : Addr} {cdv : Value} {A : Around} {outer : List PySem.Env} {s : Shared} {H : Hp} {E : XK} :
  Takes (cxOf (L2.CX P w) P w K mg base N x scope f cdv A outer s H E) (WX0 E) := takes_of rfl rfl rfl rfl
def blkB (N : List Str) (sc scope : Scope) (own : List (Str × Nat)) : Bool :=
  decide (scope.kind = .function) && (scope.names.all fun y => decide (scope.names.lookup y.1 = some y.2)) && (own.all fun p => decide (N[p.2]? = some p.1)) &&
    (scope.names.all fun y => !decide (y.2 = .free) || decide (sc.names.lookup y.1 = some .cell) || decide (sc.names.lookup y.1 = some .free)) &&
    scope.names.all fun y => !(decide (y.2 = .local) || decide (y.2 = .cell)) || decide (y.1 ∈ own.map (·.1)) || decide (y.1 ∉ N)
theorem blk_of {N : List Str} {sc scope : Scope} {own : List (Str × Nat)} (h : blkB N sc scope own = true) : BlkOk N sc scope own := by
  unfold blkB at h
  simp only [Bool.and_eq_true, Bool.or_eq_true, Bool.not_eq_true', decide_eq_true_eq, decide_eq_false_iff_not, List.all_eq_true, Bool.or_eq_false_iff] at h
  obtain ⟨⟨⟨⟨h1, h2⟩, h3⟩, h4⟩, h5⟩ := h
  refine ⟨h1, h2, h3, fun y hy e => ?_, fun y hy e => ?_⟩
  · rcases h4 y hy with (z | z) | z
    · exact absurd e z
    · exact .inl z
    · exact .inr z
  · rcases h5 y hy with (z | z) | z
    · rcases e with e | e
      · exact absurd e z.1
      · exact absurd e z.2
    · exact .inl z
    · exact .inr z
/-! ### comparisons as tests -/
def fBl (f : Env → Mem → Res D) : Env → Mem → Res Bool := fun ρ M => (f ρ M).bind fun d M1 => match d with
  | .bl k => .ok k M1
  | _ => .stuck
section
variable {X : Cx} {S : Side} {W : WX} {a b c : Expr} {f fa fb fc : Env → Mem → Res D} {pos : Pos}
theorem bl_read {σ : L2.St} {H : Hp} {Q : Bool → Hp → Prop} (h : TB X.K S W (fBl f) σ H Q) : T X.K S W f σ H fun x H' => ∃ k, x = .bl k ∧ Q k H' :=
  Tg.bind (k := fun _ (d : D) M1 => match d with
    | .bl k => Res.ok k M1
    | _ => .stuck) h fun ρ μ ν M d x H1 j e s rd o => by
      cases rd with
      | bl k => exact ⟨k, rfl, o k H1 μ (Ext.refl _ _) rfl s⟩
      | _ => exact o.elim
theorem ct_cmp {op : CmpOp} {g : D → D → Mem → Res D} (ho : OpR X (compareOp op) (rC2 X.K S.Tb g)) (ha : PE X a (T X.K S W fa)) (hb : PE X b (T X.K S W fb)) (hm : behindInMarks op b = false) :
    PT X (.Compare a [op] [b] pos) (TB X.K S W (fBl (fBin g fa fb))) :=
  ⟨fun pins s σ H Q I h => (pt_cmpR ho ha hb hm).run pins s σ H Q I (bin_read (bl_read h))⟩
theorem ct_chain {op op' : CmpOp} {g g' : D → D → Mem → Res D} (ho : OpR X (compareOp op) (rC2 X.K S.Tb g)) (ho' : OpR X (compareOp op') (rC2 X.K S.Tb g')) (ha : PE X a (T X.K S W fa)) (hb : PE X b (T X.K S W fb)) (hc : PE X c (T X.K S W fc))
    (hm : lastMarks [op, op'] [b, c] = false := by with_unfolding_all rfl) : PT X (.Compare a [op, op'] [b, c] pos) (TB X.K S W (fBl (fChain g g' fa fb fc))) :=
  ⟨fun pins s σ H Q I h => (pt_chain ho ho' ha hb hc hm).run pins s σ H Q I (chain_read (bl_read h))⟩
end
end SD

set_option Elab.async false
set_option linter.all false
set_option maxRecDepth 100000
set_option maxHeartbeats 4000000
namespace SD
open PySem PySem.Spec PyProof.Rows L2
/-- an exception class with its own __init__ -/
def IniOk (P : Program) (w : World) (K : PySem.W.Frag) (mg : Str → Option Value) (base : Heap) (k : Nat) (x : Str) (ns : List Str) : Prop :=
  InitC K x ∧ mg x = some (.ref (He.ga K x)) ∧ ∃ (fd : FuncData) (ps : List Str), FnOk P w K mg base (L2.CX P w) k (He.ma K (He.ga K x) "__init__") fd ps (spIni (He.ga K x) ns) ∧ Binds K fd ps []
/-- a def that is handed a lambda -/
def ToldOk (P : Program) (w : World) (K : PySem.W.Frag) (mg : Str → Option Value) (base : Heap) (Tb : List (Addr × Str)) (x : Str) (n : Nat) (gt : (Mem → Res D) → Env → Mem → SRes) : Prop :=
  ∃ (g : Addr) (pg : Arguments) (bg : List Stmt) (sg : Scope) (dV kV doc pm cdv ct oc : Value) (an od : Option Addr) (osl : Array (Option Value)) (Ng : List Str) (a : Str), Ng.length = n ∧ mg x = some (.ref g) ∧ PySem.W.keepIn K (.ref g) = true ∧
    K.lookup g = some ⟨oc, od, .func (PySem.W.fnOf x x pg bg sg dV kV doc pm an cdv ct), osl⟩ ∧ PySem.W.codeIn K cdv x = true ∧ L2.Binds K (PySem.W.fnOf x x pg bg sg dV kV doc pm an cdv ct) [a] [] ∧ FnScope Ng [a] sg ∧ Ng[0]? = some a ∧ Vis sg a ∧
    (a == ("__debug__" : Str)) = false ∧ (a == ("__classdict__" : Str)) = false ∧ ∀ X : Cx, X.prog = P → X.w = w → X.K = K → X.mg = mg → X.base = base → Gives X Tb Ng x sg g cdv bg a gt
section
variable {X : Cx} {S : Side} {W : WX} {e : Expr} {es : List Expr} {fs : Env → Mem → Res (List D)} {j k n : Nat} {x : Str} {p pos pos2 : Pos}
theorem c_raiseI {ns : List Str} (F : IniOk X.prog X.w X.K X.mg X.base k x ns) (hc : X.calm = true) (tk : Takes X W) (hr : Room j X.A) (hj : k + 1 ≤ j) (hg : Gl X x)
    (ha : PA X (e :: es) (TL X.K S W fs)) (hdb : (x == ("__debug__" : Str)) = false := by decide) (he : starEach (e :: es) X.env = (false, eval e X.env) :: starEach es X.env := by rfl) (hpl : (backTo pos (starEach es X.env)).any (·.1) = false := by rfl) :
    PS X (.Raise (some (.Call (.Name x p) (e :: es) [] pos)) none pos2) (TSc X.K S W (fRaise x ns fs)) := by
  obtain ⟨C, hm, fd, ps, F1, hb⟩ := F
  exact c_raise hc tk C F1 (hr.mono hj) hb hg hm ha hdb he hpl
theorem c_toldD {f0 : Env → Mem → Res D} {c P : Addr} {gt : (Mem → Res D) → Env → Mem → SRes} {params : Arguments} {body : Expr} {scope : Scope} {lpos : Pos} (D0 : ToldOk X.prog X.w X.K X.mg X.base S.Tb x n gt) (hg : Gl X x)
    (TB : LamX.TabB X.base X.mg c P) (hcode : X.env.code = .ref c) (hmT : (P, X.env.qual ++ "<lambda>") ∈ S.Tb) (hu : ∀ p ∈ S.Tb, p.1 = P → p.2 = X.env.qual ++ "<lambda>") (hr : Room j X.A) (hj : k + 2 ≤ j) (L : LamX.LamS X.env.scope scope)
    (hdef : defaultsOf params X.env = ([], [])) (hbind : ∀ (q : Str) (cl : List (Str × Addr)) (pm cv ctv : Value), bindArgs (PySem.W.kla_fn "<lambda>" q params body scope cl pm cv ctv) ⟨[], []⟩ = pure [])
    (hbody : ∀ (A : Around) (outer : List PySem.Env) (s : Shared) (H : Hp) (E : XK) (f c' : Addr), Room k (A.deeper (LamX.lamEnv X scope s.heap.objs.size f c')) → PE (LamX.lamCx X A outer s H E scope f c') body (T X.K (plainS S.Tb) (WX0 E) f0))
    (hdb : (x == ("__debug__" : Str)) = false := by decide) :
    PE X (.Call (.Name x p) [.Lambda params body scope lpos] [] pos) (T X.K S W fun ρ M => runAct n gt (f0 ρ) M) := by
  obtain ⟨g, pg, bg, sg, dV, kV, doc, pm, cdv, ct, oc, an, od, osl, Ng, a, rfl, hm, hk, lk, hcg, hb, Sg, hNg, hva, hd, hcd, hG⟩ := D0
  exact c_told hg hm hk lk hcg hb Sg hNg hva (hG X rfl rfl rfl rfl rfl) TB hcode hmT hu (hr.mono hj) L hdef hbind hbody hdb hd hcd
end
section
variable {P : Program} {w : World} {K : PySem.W.Frag} {mg : Str → Option Value} {base : Heap} {x : Str} {params : Arguments} {body : List Stmt} {scope : Scope} {fd : FuncData} {N ps : List Str} {k n : Nat} {Tb : List (Addr × Str)}
/-- a def whose code object is known -/
theorem d_okC {fd : FuncData} {f c : Addr} (F : FunD K x x params body scope [] [] f fd) (hcf : fd.code = .ref c) (hm : mg x = some (.ref f)) (S : FnScope N ps scope) {g : Env → Mem → SRes} (hn : ps.length = n)
    (hbd : ∀ (kV doc pm : Value) (an : Option Addr) (cdv ct : Value) (us : List Value), us.length = ps.length → bindArgs (PySem.W.fnOf x x params body scope .none kV doc pm an cdv ct) ⟨us, []⟩ = pure (ps.zip us))
    (hb : ∀ (A : Around) (outer : List PySem.Env) (s : Shared) (H : Hp) (E : XK), Room k (A.deeper (envOfC x scope s.heap.objs.size f (.ref c))) →
      PSs (cxOf (L2.CX P w) P w K mg base N x scope f (.ref c) A outer s H E) body (TSc K (plainS Tb) (WX0 E) g)) :
    FnOk P w K mg base (L2.CX P w) (k + 1) f fd ps (SpOf K Tb n (mOf N.length g)) ∧ DefOk P w K mg base Tb (k + 1) x n (mOf N.length g) := by
  have kp := F.kp
  have hB : Binds K fd ps [] := F.bindsN hbd
  obtain ⟨oc, od, dV, kV, doc, pm, an, cdv, ct, osl, rfl, lk, hcd, _, _⟩ := F.ex
  have ec : cdv = .ref c := hcf
  subst ec
  have key : FnOk P w K mg base (L2.CX P w) (k + 1) f (PySem.W.fnOf x x params body scope dV kV doc pm an (.ref c) ct) ps (SpOf K Tb ps.length (mOf N.length g)) := by
    refine fn_of lk hcd S (fun vs H Q E h => ?_) fun A outer s H vs Q E hr h => ⟨_, hb A outer s H E hr, ?_⟩
    · obtain ⟨ds, μ, ν, M, h1, h2, _⟩ := h
      rw [← h2.length, h1]
    · obtain ⟨ds, μ, ν, M, h1, h2, s0, o⟩ := h
      refine ⟨_, μ, ν, M, trivial, start_R N h2, s0, ?_⟩
      unfold mOf at o
      cases q : g (startE N.length ds) M with
      | nx ρ' M' => rw [q] at o; exact fun σ' H' μ' e _ _ s' => o .non H' μ' e .non s'
      | rt d M' => rw [q] at o; exact o
      | bk ρ' M' => rw [q] at o; exact o.elim
      | ct ρ' M' => rw [q] at o; exact o.elim
      | exn x ρ' M' => rw [q] at o; exact fun cls dd σ' H' μ' e _ _ rx s' => o cls dd H' μ' e rx s'
      | stuck => rw [q] at o; exact o.elim
  rw [hn] at key
  exact ⟨key, f, _, ps, key, hm, kp, hB⟩
end
end SD

set_option Elab.async false
set_option linter.all false
set_option maxRecDepth 100000
set_option maxHeartbeats 4000000
namespace SD
open PySem PySem.Spec PyProof.Rows L2
theorem tk_lam {X : Cx} {A : Around} {outer : List PySem.Env} {s : Shared} {H : Hp} {E : XK} {scope : Scope} {f c' : Addr} : Takes (LamX.lamCx X A outer s H E scope f c') (WX0 E) := takes_of rfl rfl rfl rfl
theorem own_lam {X : Cx} {A : Around} {outer : List PySem.Env} {s : Shared} {H : Hp} {E : XK} {scope : Scope} {f c' : Addr} : PassesOwn (model X.prog X.w) (LamX.lamCx X A outer s H E scope f c').A (LamX.lamCx X A outer s H E scope f c').env (LamX.lamCx X A outer s H E scope f c').xe := passes_of rfl
end SD
local macro_rules | `(tactic| kpt_turns) => `(tactic| (intro h; simp [SD.lamS, SD.plainS, SD.toldS, SD.suiteS, SD.slotFix] at h; done))
namespace SD
open PySem PySem.Spec PyProof.Rows L2
end SD

set_option Elab.async false
set_option linter.all false
set_option maxRecDepth 100000
set_option maxHeartbeats 4000000
namespace SD
open PySem PySem.Spec PyProof.Rows L2
/-! ### len of a set of tuples of texts and ints -/
def kyOf : D → Option L2.Key
  | .int i => some (.inl i)
  | .str s => some (.inr s)
  | _ => none
def kysOf : List D → Option (List L2.Key)
  | [] => some []
  | d :: r => match kyOf d with
    | some k => match kysOf r with
      | some ks => some (k :: ks)
      | none => none
    | none => none
def tupKs : List D → Option (List (List L2.Key))
  | [] => some []
  | .tup ds :: r => match kysOf ds with
    | some k => match tupKs r with
      | some ks => some (k :: ks)
      | none => none
    | none => none
  | _ :: _ => none
def memK (n : List L2.Key) (r : List (List L2.Key)) : Bool := r.any fun m => decide (m = n)
theorem memK_iff {n : List L2.Key} {r : List (List L2.Key)} : memK n r = true ↔ n ∈ r := by
  unfold memK
  rw [List.any_eq_true]
  exact ⟨fun ⟨m, h, e⟩ => of_decide_eq_true e ▸ h, fun h => ⟨n, h, decide_eq_true rfl⟩⟩
def distK : List (List L2.Key) → List (List L2.Key)
  | [] => []
  | n :: r => if memK n r = true then distK r else n :: distK r
def gLenKs : List D → Mem → Res D := fun ds M => match tupKs ds with
  | some ks => if (distK ks).length ≤ 4 then .ok (.int ((distK ks).length : Nat)) M else .stuck
  | none => .stuck
def gLenSetP : D → Mem → Res D := fun d M => match lstOf M d with
  | some ds => gLenKs ds M
  | none => .stuck
def fLenSetC (f : Env → Mem → Res (List D)) : Env → Mem → Res D := fun ρ M => (f ρ M).bind gLenKs
end SD


set_option Elab.async false
set_option linter.all false
set_option maxRecDepth 100000
set_option maxHeartbeats 4000000
namespace SD
open PySem PySem.Spec PyProof.Rows L2
/-! ### sets of tuples of plain keys, of at most four unlike ones -/
section
variable {P : Program} {w : World} {K : Type} [DecidableEq K] {kd : KeyKind P w K} {A : Around} {E : Value → Shared → Prop} {s : Shared}
/-- a part that is carried by value is of no class statement; whether it has a hash by value is known -/
theorem part_plain {v : Value} (h : carriedByValue v = true) (n : Nat) : ofAClassStatement n v = pure false := by
  cases v with
  | ref a => cases h
  | _ => cases n <;> rfl
theorem part_byval {v : Value} (h : carriedByValue v = true) (n : Nat) : ∃ b, hashByValue n v = pure b := by
  cases v with
  | ref a => cases h
  | _ => cases n <;> exact ⟨_, rfl⟩
theorem tup_plain {ks : List K} {b : Addr} {Q : Bool → Shared → Prop} (x : IsTupleKey kd s.heap ks b) (q : Q false s) : wpAny (model P w) A (ofAClassStatement 8 (.ref b)) Q E s := by
  have ty := x.typeIs
  obtain ⟨ob, its, n, g1, _, g2, g3⟩ := x
  have g4 := g3.byValue
  unfold ofAClassStatement
  refine wpAny_bind (wpAny_typeOf ty ?_)
  dsimp only
  simp only [show (("tuple" : String) == "tuple") = true from by decide, Bool.not_true, if_true, if_false, Bool.false_eq_true]
  try refine wpAny_bind (wpAny_pure ?_)
  try simp only [Bool.not_true, if_false, Bool.false_eq_true]
  refine wpAny_bind (wpAny_seqItems g1 g2 ?_)
  dsimp only
  refine wpAny_bind ?_
  show wpAny _ _ (forIn its _ _) _ _ s
  rw [← Array.forIn_toList]
  refine wpAny_forIn_list _ (fun l r s1 => r.1 = none ∧ s1 = s ∧ ∀ v ∈ l, carriedByValue v = true) _ (fun v l r s1 ⟨e1, e2, e3⟩ => ?_) (fun r s1 ⟨e1, e2, _⟩ => ?_) _ _ ⟨rfl, rfl, g4⟩
  · subst e2
    rw [part_plain (e3 v List.mem_cons_self)]
    refine wpAny_bind (wpAny_pure ?_)
    simp only [if_false, Bool.false_eq_true]
    exact wpAny_pure ⟨rfl, rfl, fun u z => e3 u (List.mem_cons_of_mem _ z)⟩
  · obtain ⟨r1, r2⟩ := r
    subst e2
    cases (show r1 = none from e1)
    exact wpAny_pure q
theorem tup_byval {ks : List K} {b : Addr} {Q : Bool → Shared → Prop} (x : IsTupleKey kd s.heap ks b) (q : ∀ v, Q v s) : wpAny (model P w) A (hashByValue 8 (.ref b)) Q E s := by
  have ty := x.typeIs
  obtain ⟨ob, its, n, g1, _, g2, g3⟩ := x
  have g4 := g3.byValue
  unfold hashByValue
  refine wpAny_bind (wpAny_specialOf ty F.slot_tuple_hash.lookup ?_)
  refine wpAny_bind (wpAny_seqItems g1 g2 ?_)
  refine wpAny_bind ?_
  show wpAny _ _ (forIn its _ _) _ _ s
  rw [← Array.forIn_toList]
  refine wpAny_forIn_list _ (fun l r s1 => r.1 = none ∧ s1 = s ∧ ∀ v ∈ l, carriedByValue v = true) _ (fun v l r s1 ⟨e1, e2, e3⟩ => ?_) (fun r s1 ⟨e1, e2, _⟩ => ?_) _ _ ⟨rfl, rfl, g4⟩
  · subst e2
    obtain ⟨bv, hb⟩ := part_byval (e3 v List.mem_cons_self) 7
    rw [hb]
    refine wpAny_bind (wpAny_pure ?_)
    cases bv with
    | true =>
      simp only [Bool.not_true, if_false, Bool.false_eq_true]
      exact wpAny_pure ⟨rfl, rfl, fun u z => e3 u (List.mem_cons_of_mem _ z)⟩
    | false =>
      simp only [Bool.not_false, if_true]
      exact wpAny_pure (wpAny_pure (q false))
  · obtain ⟨r1, r2⟩ := r
    subst e2
    cases (show r1 = none from e1)
    exact wpAny_pure (q true)
theorem tups_unseen {ks : List K} {b : Addr} {Q : Bool → Shared → Prop} (x : IsTupleKey kd s.heap ks b) {ys : List Value} (hy : ∀ y ∈ ys, ∃ js c, y = Value.ref c ∧ IsTupleKey kd s.heap js c) (q : Q false s) :
    wpAny (model P w) A (searchCouldBeSeen (.ref b) ys) Q E s := by
  unfold searchCouldBeSeen
  refine wpAny_bind ?_
  refine wpAny_forIn_list _ (fun l r s1 => r.1 = none ∧ s1 = s ∧ ∀ y ∈ l, ∃ js c, y = Value.ref c ∧ IsTupleKey kd s.heap js c) _ (fun v l r s1 ⟨e1, e2, e3⟩ => ?_) (fun r s1 ⟨e1, e2, _⟩ => ?_) _ _ ⟨rfl, rfl, hy⟩
  · subst e2
    obtain ⟨js, c, rfl, z⟩ := e3 v List.mem_cons_self
    have e4 : ∀ y ∈ l, ∃ js c, y = Value.ref c ∧ IsTupleKey kd s1.heap js c := fun u z => e3 u (List.mem_cons_of_mem _ z)
    dsimp only
    by_cases same : (b == c || (carriedByValue (.ref b) && carriedByValue (.ref c))) = true
    · exact wp_if_pos same (wpAny_pure ⟨rfl, rfl, e4⟩)
    · refine wp_if_neg same (wpAny_bind (wpAny_eqIsQuiet_tuple x ?_))
      simp only [Bool.not_true, if_false, Bool.false_eq_true]
      refine wpAny_bind (wpAny_eqIsQuiet_tuple z ?_)
      simp only [Bool.not_true, if_false, Bool.false_eq_true]
      refine wpAny_bind (tup_plain x ?_)
      simp only [if_false, Bool.false_eq_true]
      refine wpAny_bind (tup_plain z ?_)
      simp only [if_false, Bool.false_eq_true]
      exact wpAny_pure ⟨rfl, rfl, e4⟩
  · obtain ⟨r1, r2⟩ := r
    subst e2
    cases (show r1 = none from e1)
    exact wpAny_pure q
end

/-! ### the probe, from the c-th slot of the way on -/
abbrev way0 (m : Nat) (h : Int) : SetTable.Probe := runAt m (SetTable.bits h % (m + 1)) (SetTable.bits h)
theorem nth_undummied (m : Nat) : ∀ (n : Nat) (p : SetTable.Probe), p.dummy = none → (nth m p n).dummy = none
  | 0, _, h => h
  | n + 1, p, h => nth_undummied m n (adv m p) (by
    unfold adv
    split
    · exact h
    · exact h)
theorem probe_way {t : SetTable} {hs : List Int} (T : TabOk t hs) {h : Int} {N : Nat} (hN : N < 10 * SetTable.turns t.mask) (out : way t.mask h N ∉ t.place.toList) (inn : ∀ c, c < N → way t.mask h c ∈ t.place.toList) (hashAt : Nat → Int) {c : Nat} (hc : c ≤ N) :
    (∃ q i, c ≤ q ∧ q < N ∧ t.place.toList[i]? = some (way t.mask h q) ∧ hashAt i = h ∧ (∀ q' i', c ≤ q' → q' < q → t.place.toList[i']? = some (way t.mask h q') → hashAt i' ≠ h) ∧
      t.probe hashAt h (nth t.mask (way0 t.mask h) c) = some (.candidate (way t.mask h q) i (nth t.mask (way0 t.mask h) (q + 1)))) ∨
    ((∀ q' i', c ≤ q' → q' < N → t.place.toList[i']? = some (way t.mask h q') → hashAt i' ≠ h) ∧ t.probe hashAt h (nth t.mask (way0 t.mask h) c) = some (.empty (way t.mask h N) none)) := by
  have from_c : ∀ q, nth t.mask (nth t.mask (way0 t.mask h) c) q = nth t.mask (way0 t.mask h) (c + q) := fun q => (nth_add t.mask c _ q).symm
  have slot : ∀ q, (nth t.mask (nth t.mask (way0 t.mask h) c) q).j = way t.mask h (c + q) := fun q => congrArg SetTable.Probe.j (from_c q)
  have eN : c + (N - c) = N := by omega
  rcases go_spec t T.ris T.dm hashAt h (10 * SetTable.turns t.mask) (N - c) _ (nth_undummied t.mask c _ rfl) (by omega) (fun q hq => by rw [slot]; exact inn _ (by omega)) (by rw [slot, eN]; exact out) with ⟨q, i, h1, h2, h3, h4, h5⟩ | ⟨h4, h5⟩
  · refine .inl ⟨c + q, i, Nat.le_add_right _ _, by omega, by rw [← slot]; exact h2, h3, fun q' i' a b z => h4 (q' - c) i' (by omega) (by rw [slot, show c + (q' - c) = q' by omega]; exact z), ?_⟩
    rw [← slot, show c + q + 1 = c + (q + 1) by omega, ← from_c]
    exact h5
  · refine .inr ⟨fun q' i' a b z => h4 (q' - c) i' (by omega) (by rw [slot, show c + (q' - c) = q' by omega]; exact z), ?_⟩
    have eW : way t.mask h N = (nth t.mask (nth t.mask (way0 t.mask h) c) (N - c)).j := by rw [slot, eN]
    rw [eW]
    exact h5

section
variable {P : Program} {w : World} {K : Type} [DecidableEq K] {kd : KeyKind P w K} {A : Around} {E : Value → Shared → Prop} {s : Shared}
/-- the set at a holds these tuples -/
structure Sx (kd : KeyKind P w K) (h : Heap) (a : Addr) (L : List (Addr × List K)) (es : Array (Int × Value)) (ep : Nat) (t : SetTable) : Prop where
  obj : ∃ ob, h.get? a = some ob ∧ ob.ExactSet ∧ ob.data = .set es ep t
  ent : es.toList = L.map fun p => (tupleKeyHash kd p.2, Value.ref p.1)
  tab : TabOk t (L.map fun p => tupleKeyHash kd p.2)
  one : (L.map Prod.snd).Nodup
  keys : ∀ p ∈ L, IsTupleKey kd h p.2 p.1
  m7 : t.mask = 7
  few : L.length ≤ 4
variable {a : Addr} {L : List (Addr × List K)} {es : Array (Int × Value)} {ep : Nat} {t : SetTable}
theorem Sx.count (R : Sx kd s.heap a L es ep t) : es.size = L.length := by
  rw [← Array.length_toList, R.ent, List.length_map]
theorem Sx.slots (R : Sx kd s.heap a L es ep t) : t.place.size = L.length := by
  rw [R.tab.sz, List.length_map]
theorem Sx.fit (R : Sx kd s.heap a L es ep t) : t.fits es.size = true := by
  have h1 := R.few
  have h2 := R.m7
  unfold SetTable.fits SetTable.fill
  rw [R.tab.dm, R.count, R.slots, h2, Bool.and_eq_true, beq_iff_eq, decide_eq_true_eq]
  exact ⟨rfl, by show L.length + 0 ≤ 7; omega⟩
theorem Sx.at_ (R : Sx kd s.heap a L es ep t) {i : Nat} {p : Addr × List K} (h : L[i]? = some p) : es[i]? = some (tupleKeyHash kd p.2, Value.ref p.1) := by
  rw [← Array.getElem?_toList, R.ent, List.getElem?_map, h]
  rfl
theorem Sx.stays (R : Sx kd s.heap a L es ep t) : ¬ t.gaveWay = true := by
  unfold SetTable.gaveWay
  rw [R.m7]
  decide
/-- the search, from the c-th slot of the way on: none of the ones passed is k -/
theorem seek (R : Sx kd s.heap a L es ep t) {x : Addr} {k : List K} (hx : IsTupleKey kd s.heap k x) (hu : A.units < cLine) {N : Nat} (hN : N < 10 * SetTable.turns t.mask) (out : way t.mask (tupleKeyHash kd k) N ∉ t.place.toList) (inn : ∀ c, c < N → way t.mask (tupleKeyHash kd k) c ∈ t.place.toList)
    {Q : SetFound → Shared → Prop} (qin : k ∈ L.map Prod.snd → Q (.there none) s) (qout : k ∉ L.map Prod.snd → Q (.free (way t.mask (tupleKeyHash kd k) N) false) s) :
    ∀ (f c : Nat) (st : Option SetTable.Probe), st.getD (t.probeStart (tupleKeyHash kd k)) = nth t.mask (way0 t.mask (tupleKeyHash kd k)) c → c ≤ N → N < c + f →
      (∀ (c' i : Nat) (p : Addr × List K), c' < c → t.place.toList[i]? = some (way t.mask (tupleKeyHash kd k) c') → L[i]? = some p → p.2 ≠ k) →
      wpAny (model P w) A (setSearchFrom a (.ref x) (tupleKeyHash kd k) true f st) Q E s
  | 0, c, st, _, h1, h2, _ => absurd h2 (by omega)
  | f + 1, c, st, h0, h1, h2, past => by
    obtain ⟨ob, g1, g2, g3⟩ := R.obj
    rw [setSearchFrom_succ]
    refine wpAny_bind (wpAny_setState_of g1 g3 R.fit ?_)
    dsimp only
    refine wp_if_neg R.stays ?_
    try refine wpAny_bind (wpAny_pure ?_)
    have hat : ∀ (i : Nat) (p : Addr × List K), L[i]? = some p → (es[i]?.map (·.1)).getD 0 = tupleKeyHash kd p.2 := fun i p hp => by rw [R.at_ hp]; rfl
    rcases probe_way R.tab hN out inn (fun i => (es[i]?.map (·.1)).getD 0) h1 with ⟨q, i, c1, c2, c3, c4, c5, c6⟩ | ⟨c5, c6⟩
    · rw [h0, c6]
      dsimp only
      have il : i < L.length := by
        have := (List.getElem?_eq_some_iff.mp c3).1
        rw [Array.length_toList, R.slots] at this
        exact this
      obtain ⟨p, hp⟩ : ∃ p, L[i]? = some p := ⟨_, List.getElem?_eq_getElem il⟩
      have pm : p ∈ L := List.mem_of_getElem? hp
      have further : wpAny (model P w) A (searchRest a (.ref x) (tupleKeyHash kd k) true f es t (way t.mask (tupleKeyHash kd k) q) i (nth t.mask (way0 t.mask (tupleKeyHash kd k)) (q + 1))) Q E s := by
        unfold searchRest
        rw [R.at_ hp]
        dsimp only
        refine wpAny_bind (wpAny_holding (wpAny_eqBool_tuple hu (R.keys p pm) hx ?_))
        refine wpAny_bind (wpAny_setState_of g1 g3 R.fit ?_)
        dsimp only
        by_cases hk : p.2 = k
        · refine wp_if_pos (by simp [hk]) (wpAny_pure (qin ?_))
          exact List.mem_map.mpr ⟨p, pm, hk⟩
        · refine wp_if_neg (by simp [hk]) ?_
          try refine wpAny_bind (wpAny_pure ?_)
          rw [sameMem]
          dsimp only
          have live : t.slot (way t.mask (tupleKeyHash kd k) q) = .live i := slot_live R.tab.ris c3
          simp only [if_true, live, R.at_ hp]
          refine wpAny_bind (wpAny_isSame_ref_self (wpAny_bind (wpAny_pure ?_)))
          simp only [if_true]
          refine wp_if_neg (by simp [hk]) ?_
          refine seek R hx hu hN out inn qin qout f (q + 1) _ rfl (by omega) (by omega) fun c' i' p' l1 l2 l3 => ?_
          by_cases z1 : c' < c
          · exact past c' i' p' z1 l2 l3
          · by_cases z2 : c' < q
            · intro e
              exact c5 c' i' (by omega) z2 l2 ((hat i' p' l3).trans (by rw [e]))
            · have z3 : c' = q := by omega
              subst z3
              have live' := slot_live R.tab.ris l2
              rw [live] at live'
              injection live' with live'
              rw [← live', hp] at l3
              cases l3
              exact hk
      by_cases led : t.led = true
      · refine wp_if_neg (by simp [led]) ?_
        try refine wpAny_bind (wpAny_pure ?_)
        exact further
      · refine wp_if_pos (by simp [led]) ?_
        refine wpAny_bind (tups_unseen hx (fun y hy => ?_) ?_)
        · obtain ⟨e, he, ee⟩ := List.mem_map.mp hy
          have m1 : e ∈ es.toList := by
            have : e ∈ es ∧ e.1 = tupleKeyHash kd k := by simpa using he
            simpa using this.1
          rw [R.ent] at m1
          obtain ⟨p2, m2, e2⟩ := List.mem_map.mp m1
          exact ⟨p2.2, p2.1, by rw [← ee, ← e2], R.keys p2 m2⟩
        · refine wp_if_neg (by decide) ?_
          try refine wpAny_bind (wpAny_pure ?_)
          exact further
    · rw [h0, c6]
      dsimp only
      refine wpAny_pure (qout fun hm => ?_)
      obtain ⟨p, pm, hk⟩ := List.mem_map.mp hm
      obtain ⟨i, hp⟩ := List.mem_iff_getElem?.mp pm
      have il : i < t.place.toList.length := by
        rw [Array.length_toList, R.slots]
        exact (List.getElem?_eq_some_iff.mp hp).1
      have hj := List.getElem?_eq_getElem il
      obtain ⟨c', l1, l2⟩ := R.tab.before out (i := i) (h := tupleKeyHash kd k) (by rw [List.getElem?_map, hp, ← hk]; rfl) hj
      rw [← l2] at hj
      by_cases z1 : c' < c
      · exact past c' i p z1 hj hp hk
      · exact c5 c' i (by omega) l1 hj ((hat i p hp).trans (by rw [hk]))
theorem seek0 (R : Sx kd s.heap a L es ep t) {x : Addr} {k : List K} (hx : IsTupleKey kd s.heap k x) (hu : A.units < cLine) {Q : SetFound → Shared → Prop} (qin : k ∈ L.map Prod.snd → Q (.there none) s)
    (qout : ∀ N, k ∉ L.map Prod.snd → way t.mask (tupleKeyHash kd k) N ∉ t.place.toList → (∀ c, c < N → way t.mask (tupleKeyHash kd k) c ∈ t.place.toList) → Q (.free (way t.mask (tupleKeyHash kd k) N) false) s) :
    wpAny (model P w) A (setSearch a (.ref x) (tupleKeyHash kd k) true) Q E s := by
  have h4 := R.few
  have h7 := R.m7
  obtain ⟨N, n1, n2, n3⟩ := R.tab.first (by rw [List.length_map, h7]; omega) (tupleKeyHash kd k)
  have big : 10 * SetTable.turns t.mask ≤ 1420 := by
    unfold SetTable.turns
    omega
  unfold setSearch
  exact seek R hx hu n1 n2 n3 qin (fun z => qout N z n2 n3) 100000 0 none rfl (Nat.zero_le _) (by omega) fun c' i p z => absurd z (Nat.not_lt_zero _)
end
end SD

set_option Elab.async false
set_option linter.all false
set_option maxRecDepth 100000
set_option maxHeartbeats 4000000
namespace SD
open PySem PySem.Spec PyProof.Rows L2
theorem nodup_le {α : Type} [DecidableEq α] : ∀ (l D : List α), l.Nodup → (∀ x ∈ l, x ∈ D) → l.length ≤ D.length
  | [], _, _, _ => Nat.zero_le _
  | x :: l, D, hn, hs => by
    obtain ⟨h1, h2⟩ := List.nodup_cons.mp hn
    have hx := hs x List.mem_cons_self
    have := nodup_le l (D.erase x) h2 fun y hy => (List.mem_erase_of_ne (fun z => h1 (by rw [← z]; exact hy))).mpr (hs y (List.mem_cons_of_mem _ hy))
    rw [List.length_erase_of_mem hx] at this
    have pos := List.length_pos_of_mem hx
    simp only [List.length_cons]
    omega
theorem insert_perm {α : Type} (L : List α) (n : Nat) (x : α) : (L.take n ++ x :: L.drop n).Perm (x :: L) :=
  List.perm_middle.trans (by rw [List.take_append_drop])
section
variable {P : Program} {w : World} {K : Type} [DecidableEq K] {kd : KeyKind P w K} {A : Around} {E : Value → Shared → Prop} {s : Shared}
variable {a : Addr} {L : List (Addr × List K)} {es : Array (Int × Value)} {ep : Nat} {t : SetTable}
/-- a tuple stays when the set is written -/
theorem key_stays {h h' : Heap} {k : List K} {b : Addr} {ob : Obj} (x : IsTupleKey kd h k b) (g : h.get? a = some ob) (gd : ob.data = .set es ep t) (sb : Heap.SameBut a h h') : IsTupleKey kd h' k b := by
  obtain ⟨oc, its, n, e1, e2, e3, e4⟩ := x
  refine ⟨oc, its, n, (sb.2 b fun z => ?_).trans e1, e2, e3, e4⟩
  subst z
  rw [g] at e1
  cases e1
  rw [gd] at e3
  cases e3
theorem key_lasts {h h' : Heap} {k : List K} {b : Addr} (x : IsTupleKey kd h k b) (up : ∀ c o, h.get? c = some o → h'.get? c = some o) : IsTupleKey kd h' k b := by
  obtain ⟨oc, its, n, e1, r⟩ := x
  exact ⟨oc, its, n, up b oc e1, r⟩
theorem Sx.lasts {h h' : Heap} (R : Sx kd h a L es ep t) (here : ∀ o, h.get? a = some o → h'.get? a = some o) (ks : ∀ p ∈ L, IsTupleKey kd h' p.2 p.1) : Sx kd h' a L es ep t :=
  ⟨let ⟨o, e, r⟩ := R.obj; ⟨o, here o e, r⟩, R.ent, R.tab, R.one, ks, R.m7, R.few⟩
abbrev bareSet (w : World) : Obj := { cls := .type "set", dict := none, data := .set #[] 0 (.fresh 0 0 (!w.params.followText "set-order")) }
theorem Sx.bare {h : Heap} (g : h.get? a = some (bareSet w)) : Sx kd h a [] #[] 0 (.fresh 0 0 (!w.params.followText "set-order")) where
  obj := ⟨_, g, ⟨rfl, rfl, rfl⟩, rfl⟩
  ent := rfl
  tab := { ris := List.Pairwise.nil, dm := rfl, sz := rfl, mok := .inl rfl, bd := fun x z => (by cases z), reach := fun i v j z => (by simp at z) }
  one := List.nodup_nil
  keys := fun p z => (by cases z)
  m7 := rfl
  few := Nat.zero_le _
/-- a tuple is added -/
theorem Sx.add (R : Sx kd s.heap a L es ep t) {x : Addr} {k : List K} (hx : IsTupleKey kd s.heap k x) (hu : A.units < cLine) (room : k ∉ L.map Prod.snd → L.length < 4) {Q : Bool → Shared → Prop}
    (q : ∀ b h' L' es' ep' t', Heap.SameBut a s.heap h' → Sx kd h' a L' es' ep' t' → (k ∈ L.map Prod.snd → L' = L) → (k ∉ L.map Prod.snd → L'.Perm ((x, k) :: L)) → Q b { s with heap := h' }) :
    wpAny (model P w) A (setAddHashed a (.ref x) (tupleKeyHash kd k)) Q E s := by
  obtain ⟨ob, g1, g2, g3⟩ := R.obj
  unfold setAddHashed
  refine wpAny_holding ?_
  rw [show (100000 : Nat) = 99999 + 1 from rfl, setAddHashedIn_succ]
  refine wpAny_bind (wpAny_setState_of g1 g3 R.fit ?_)
  dsimp only
  refine wp_if_neg (by simp [byScan, Value.scannable]) ?_
  try refine wpAny_bind (wpAny_pure ?_)
  refine wpAny_bind (seek0 R hx hu (fun z => ?_) fun N z n1 n2 => ?_)
  · exact wpAny_pure (q false s.heap L es ep t (Heap.SameBut.refl a s.heap) R (fun _ => rfl) fun y => absurd z y)
  · dsimp only
    refine wpAny_bind (wpAny_setState_of g1 g3 R.fit ?_)
    dsimp only
    have few := room z
    obtain ⟨e1, e2, e3, e4, _, _, _, _, e9⟩ := R.tab.put n1 n2
    generalize t.put (way t.mask (tupleKeyHash kd k) N) = put at e1 e3 e4 e9 ⊢
    obtain ⟨t1, n⟩ := put
    dsimp only at e1 e3 e4 e9 ⊢
    subst e1
    generalize SetTable.below t.place (way t.mask (tupleKeyHash kd k) N) = n at e2 e3 ⊢
    have pm := insert_perm L n (x, k)
    have ents : (SetTable.insertAt es n (tupleKeyHash kd k, Value.ref x)).toList = (L.take n ++ (x, k) :: L.drop n).map fun p => (tupleKeyHash kd p.2, Value.ref p.1) := by
      rw [SetTable.toList_insertAt, R.ent, List.map_append, List.map_cons, List.map_take, List.map_drop]
    have hashes : (L.map fun p => tupleKeyHash kd p.2).take n ++ tupleKeyHash kd k :: (L.map fun p => tupleKeyHash kd p.2).drop n = (L.take n ++ (x, k) :: L.drop n).map fun p => tupleKeyHash kd p.2 := by
      rw [List.map_append, List.map_cons, List.map_take, List.map_drop]
    rw [hashes] at e3
    have ln := pm.length_eq
    rw [List.length_cons] at ln
    have sz : (SetTable.insertAt es n (tupleKeyHash kd k, Value.ref x)).size = L.length + 1 := by rw [← Array.length_toList, ents, List.length_map, ln]
    have one1 : ((L.take n ++ (x, k) :: L.drop n).map Prod.snd).Nodup := (pm.map Prod.snd).nodup_iff.mpr (List.nodup_cons.mpr ⟨z, R.one⟩)
    generalize SetTable.insertAt es n (tupleKeyHash kd k, Value.ref x) = es1 at ents sz ⊢
    generalize L.take n ++ (x, k) :: L.drop n = L1 at pm ents e3 ln one1
    have room1 : ∀ t2 : SetTable, t2.place = t1.place → t2.dummies = t1.dummies → t2.mask = t1.mask → ¬ t2.tooFull = true := fun t2 y1 y2 y3 => by
      have e9' : t2.fill = L.length + 1 := by
        have : t2.fill = t1.fill := by
          unfold SetTable.fill
          rw [y1, y2]
        rw [this, e9, List.length_map]
      unfold SetTable.tooFull
      rw [decide_eq_true_eq, e9', y3, e4, R.m7]
      omega
    have last : ∀ t2 : SetTable, t2.place = t1.place → t2.dummies = t1.dummies → t2.mask = t1.mask → wpAny (model P w) A (storeSet a es1 t2 >>= fun _ => pure true) Q E s := fun t2 y1 y2 y3 => by
      refine wpAny_bind (wpAny_storeSet_of g1 g3 ?_ (by rw [sz, sizeLine_eq]; omega))
      have sb : Heap.SameBut a s.heap (s.heap.update a (Obj.putSet es1 t2)) := Heap.SameBut.update ..
      have g1' := store_at (es' := es1) (t' := t2) g1 g3
      generalize s.heap.update a (Obj.putSet es1 t2) = h1 at sb g1' ⊢
      refine wpAny_pure (q true h1 L1 es1 (ep + 1) t2 sb ⟨⟨_, g1', ⟨g2.1, g2.2.1, g2.2.2⟩, rfl⟩, ents, ?_, one1, fun p hp => ?_, by rw [y3, e4, R.m7], by omega⟩ (fun y => absurd y z) fun _ => pm)
      · exact { ris := by rw [y1]; exact e3.ris, dm := by rw [y2]; exact e3.dm, sz := by rw [y1]; exact e3.sz, mok := by rw [y3]; exact e3.mok, bd := by rw [y1, y3]; exact e3.bd, reach := by rw [y1, y3]; exact e3.reach }
      · rcases List.mem_cons.mp (pm.mem_iff.mp hp) with y | y
        · rw [y]
          exact key_stays hx g1 g3 sb
        · exact key_stays (R.keys p y) g1 g3 sb
    have tail : ∀ bv : Bool, wpAny (model P w) A (do
        storeSet a es1 (if bv = true then t1 else { t1 with plain := false })
        if (!false && (if bv = true then t1 else { t1 with plain := false }).tooFull) = true then setRelay a (SetTable.grown (es.size + 1))
        return true) Q E s := fun bv => by
      cases bv with
      | true =>
        have h0 := last t1 rfl rfl rfl
        have h1 := room1 t1 rfl rfl rfl
        simp only [if_true, Bool.not_false, Bool.true_and, h1, if_false, Bool.false_eq_true]
        first
          | exact h0
          | (simp only [pure_bind]; exact h0)
      | false =>
        have h0 := last { t1 with plain := false } rfl rfl rfl
        have h1 := room1 { t1 with plain := false } rfl rfl rfl
        simp only [if_false, Bool.false_eq_true, Bool.not_false, Bool.true_and, h1]
        first
          | exact h0
          | (simp only [pure_bind]; exact h0)
    by_cases hp : t1.plain = true
    · first
        | (refine wpAny_bind ?_; refine wp_if_pos hp ?_; exact tup_byval hx fun v => tail v)
        | exact wp_if_pos hp (wpAny_bind (tup_byval hx fun v => tail v))
    · first
        | (refine wpAny_bind ?_; refine wp_if_neg hp ?_; exact wpAny_pure (tail true))
        | exact wp_if_neg hp (wpAny_bind (wpAny_pure (tail true)))
        | exact wp_if_neg hp (tail true)
end
end SD

set_option Elab.async false
set_option linter.all false
set_option maxRecDepth 100000
set_option maxHeartbeats 4000000
namespace SD
open PySem PySem.Spec PyProof.Rows L2
section
variable {P : Program} {w : World} {K : Type} [DecidableEq K] {kd : KeyKind P w K} {A : Around} {E : Value → Shared → Prop} {s : Shared}
/-- what has been taken up of the first i things -/
structure Took (ks L : List (Addr × List K)) (i : Nat) : Prop where
  sub : ∀ p ∈ L, p ∈ ks.take i
  all : ∀ p ∈ ks.take i, p.2 ∈ L.map Prod.snd
theorem take_one {α : Type} {l : List α} {i : Nat} {x : α} (e : l[i]? = some x) {y : α} : y ∈ l.take (i + 1) ↔ y ∈ l.take i ∨ y = x := by
  rw [List.take_succ, e]
  simp
theorem Took.next {ks L L' : List (Addr × List K)} {i : Nat} {x : Addr × List K} (g : Took ks L i) (e : ks[i]? = some x) (old : x.2 ∈ L.map Prod.snd → L' = L) (new : x.2 ∉ L.map Prod.snd → L'.Perm (x :: L)) : Took ks L' (i + 1) := by
  by_cases z : x.2 ∈ L.map Prod.snd
  · rw [old z]
    exact ⟨fun p hp => (take_one e).mpr (.inl (g.sub p hp)), fun p hp => ((take_one e).mp hp).elim (g.all p) fun y => y ▸ z⟩
  · have pm := new z
    refine ⟨fun p hp => (take_one e).mpr ?_, fun p hp => ?_⟩
    · rcases List.mem_cons.mp (pm.mem_iff.mp hp) with y | y
      · exact .inr y
      · exact .inl (g.sub p y)
    · rw [(pm.map Prod.snd).mem_iff, List.map_cons]
      rcases (take_one e).mp hp with y | y
      · exact List.mem_cons_of_mem _ (g.all p y)
      · rw [y]; exact List.mem_cons_self
/-- there is room as long as all lie among four -/
theorem room_of {ks : List K} {L : List (Addr × List K)} {D : List (List K)} (hD : D.length ≤ 4) (one : (L.map Prod.snd).Nodup) (sub : ∀ p ∈ L, p.2 ∈ D) (hk : ks ∈ D) : ks ∉ L.map Prod.snd → L.length < 4 := fun z => by
  have := nodup_le (ks :: L.map Prod.snd) D (List.nodup_cons.mpr ⟨z, one⟩) fun x hx => by
    rcases List.mem_cons.mp hx with y | y
    · rw [y]; exact hk
    · obtain ⟨p, hp, e⟩ := List.mem_map.mp y
      rw [← e]; exact sub p hp
  simp only [List.length_cons, List.length_map] at this
  omega
/-- the loop that takes up one thing after another -/
theorem take_up {I : Addr} {fp wr : List Addr} {G : Array GenState → Array GenState → Prop} {n : Nat} {Pv : Nat → Value → Prop} {St : Nat → Shared → Prop} {R : Result → Shared → Prop} (W : WalksS P w A.in1 I fp wr G n Pv St) (S : Addr) (hS : S ∉ fp)
    (ks : List (Addr × List K)) (hn : n = ks.length) {D : List (List K)} (hD : D.length ≤ 4) (hkD : ∀ p ∈ ks, p.2 ∈ D) (hv : ∀ i v, Pv i v → ∃ p, ks[i]? = some p ∧ v = .ref p.1)
    (h0 : Heap) (hk : ∀ p ∈ ks, IsTupleKey kd h0 p.2 p.1) (nS : h0.get? S = none) (nw : ∀ b ∈ wr, h0.get? b = none) (hu : A.in1.units < cLine) :
    ∀ (m i : Nat) (s : Shared), i + m = n → St i s → (∀ b o, h0.get? b = some o → s.heap.get? b = some o) → (∃ L es ep t, Sx kd s.heap S L es ep t ∧ Took ks L i) →
      (∀ s' L es ep t, Moved (S :: wr) G s s' → Sx kd s'.heap S L es ep t → Took ks L n → (∀ b o, h0.get? b = some o → s'.heap.get? b = some o) → R (.ok (.ret .none)) s') →
      codeAny (model P w) A (.builtin "set.update.loop" ⟨[.ref S, .ref I], []⟩) R s := by
  have S_wr : S ∉ wr := fun z => hS (W.sub _ z)
  have wide : ∀ b ∈ wr, b ∈ S :: wr := fun b z => List.mem_cons_of_mem _ z
  have up : ∀ {s s' : Shared}, Moved wr G s s' → (∀ b o, h0.get? b = some o → s.heap.get? b = some o) → ∀ b o, h0.get? b = some o → s'.heap.get? b = some o := fun mv u b o e => mv.heap b o (fun z => by rw [nw b z] at e; cases e) (u b o e)
  intro m
  induction m with
  | zero =>
    intro i s hi st u ⟨L, es, ep, t, x, g⟩ q
    have e0 : i = n := by omega
    subst e0
    refine codeAny_builtin F.entry_set_update_loop ?_
    rw [Around.under_plainId F.plain_set_update_loop _]
    refine wpAny_bind (W.done s _ _ st fun s' mv => ?_)
    have u' := up mv u
    exact wpAny_pure (q s' L es ep t (mv.mono wide) (x.lasts (fun o e => mv.heap S o S_wr e) fun p hp => key_lasts (hk p (List.mem_of_mem_take (g.sub p hp))) u') g u')
  | succ m ih =>
    intro i s hi st u ⟨L, es, ep, t, x, g⟩ q
    refine codeAny_builtin F.entry_set_update_loop ?_
    rw [Around.under_plainId F.plain_set_update_loop _]
    refine wpAny_bind (W.item i s _ _ (by omega) st fun v s' pv st' mv => ?_)
    obtain ⟨p, ep0, rfl⟩ := hv i v pv
    have pm : p ∈ ks := List.mem_of_getElem? ep0
    have u' := up mv u
    have inks : ∀ r ∈ L, r ∈ ks := fun r z => List.mem_of_mem_take (g.sub r z)
    have x' : Sx kd s'.heap S L es ep t := x.lasts (fun o e => mv.heap S o S_wr e) fun r z => key_lasts (hk r (inks r z)) u'
    have px : IsTupleKey kd s'.heap p.2 p.1 := key_lasts (hk p pm) u'
    show wpAny _ A.in1 (holding [Value.ref p.1] (setAdd S (.ref p.1)) >>= _) _ _ s'
    refine wpAny_bind (wpAny_holding ?_)
    unfold setAdd
    refine wpAny_holding (wpAny_bind (wpAny_pyHash_tuple hu px ?_))
    refine Sx.add (s := { s' with toks := s'.toks + (p.2.length + 1) }) x' px hu (room_of hD x.one (fun r z => hkD r (inks r z)) (hkD p pm)) fun b h' L' es' ep' t' sb x2 c1 c2 => ?_
    have u2 : ∀ b o, h0.get? b = some o → h'.get? b = some o := fun b o e => (sb.2 b fun z => by rw [z, nS] at e; cases e).trans (u' b o e)
    refine wpAny_pure ⟨plainId_quiet F.plain_set_update_loop _, ih (i + 1) _ (by omega) (W.frame _ s' _ _ st' (Nat.le_add_right _ _) fun b hb o e => ?_) u2 ⟨L', es', ep', t', x2, g.next ep0 c1 c2⟩ fun s2 L2 es2 ep2 t2 mv2 x3 g3 u3 => ?_⟩
    · exact (sb.2 b fun z => hS (z ▸ hb)).trans e
    · refine q s2 L2 es2 ep2 t2 (Moved.trans W.gtrans ((mv.mono wide).then_heap (Nat.le_add_right _ _) fun b o nb e => ?_) mv2) x3 g3 u3
      exact (sb.2 b fun z => nb (z ▸ List.mem_cons_self)).trans e
/-- set(xs), xs a list of such tuples -/
theorem set_call {l : Addr} {items : Array Value} (ks : List (Addr × List K)) {D : List (List K)} (hD : D.length ≤ 4) (hkD : ∀ p ∈ ks, p.2 ∈ D) {Q : Value → Shared → Prop} (hh : A.handled = none) (hl : s.heap.IsList l items) (hit : items.toList = ks.map fun p => Value.ref p.1)
    (hk : ∀ p ∈ ks, IsTupleKey kd s.heap p.2 p.1) (hu : A.units + 3 < cLine)
    (q : ∀ (h' : Heap) (tk : Nat) L es ep t, Sx kd h' s.heap.objs.size L es ep t → Took ks L ks.length → (∀ b o, s.heap.get? b = some o → h'.get? b = some o) → Q (.ref s.heap.objs.size) { s with heap := h', toks := tk }) :
    wpAny (model P w) A (call (.type "set") [.ref l]) Q E s := by
  have isz : items.size = ks.length := by rw [← Array.length_toList, hit, List.length_map]
  obtain ⟨c, tl, hmro⟩ := F.called_set.mro
  have hmade := F.called_set.made
  have hsub := F.called_set.sub
  refine wpAny_call (codeAny_of_tree ?_)
  refine wpAny_pure ⟨Code.quiet_builtin _ (by decide +kernel), codeAny_builtin F.entry_type_call ?_⟩
  rw [Around.under_plain (weight_type_call_type "set" [.ref l] []) rfl]
  have k1 := F.called_set.notType
  have k2 := F.called_set.canCreate
  have k3 := F.typeCall_set_1 (.ref l)
  repeat (any_goals (first | assumption | wp_step))
  refine codeAny_mono (code_set_led1 (.ref l) (E := E) (Q₁ := fun v s1 => v = .ref s.heap.objs.size ∧ s1 = { s with heap := s.heap.push (bareSet w) }) ⟨rfl, rfl⟩) fun r s1 hr => ?_
  cases r with
  | error e => exact hr
  | ok fl =>
    cases fl with
    | ret v =>
      obtain ⟨rfl, rfl⟩ := hr
      have atS : (s.heap.push (bareSet w)).get? s.heap.objs.size = some (bareSet w) := Heap.get?_push_size _ rfl
      have tyS : Shared.TypeIs { s with heap := s.heap.push (bareSet w) } (.ref s.heap.objs.size) "set" := ⟨_, atS, rfl⟩
      have m1 := F.called_set.init.lookup
      have m2 := F.called_set.init.bind (.ref s.heap.objs.size)
      repeat (any_goals (first | assumption | wp_step))
      refine codeAny_mono (codeAny_call_builtin (R := wants (fun r s2 => r = .none ∧ ∃ h' tk L es ep t, s2 = { s with heap := h', toks := tk } ∧ Sx kd h' s.heap.objs.size L es ep t ∧ Took ks L ks.length ∧ (∀ b o, s.heap.get? b = some o → h'.get? b = some o)) E) F.called_set.init.plain F.entry_set_init (check_set_init_1 tyS ?_)) fun r2 s2 hr2 => ?_
      · obtain ⟨lo, g1, g2, ln, g3⟩ := hl
        obtain ⟨lc, ld, lx, ls⟩ := lo
        simp only at g2 g3
        subst g2
        subst g3
        have g1' : (s.heap.push (bareSet w)).get? l = some { cls := .type "list", dict := ld, data := .seq items ln, slots := ls } := Heap.get?_push_of_some _ g1
        have n1 := F.sub_list_set
        have n2 := F.sub_list_frozenset
        have n3 : (Value.type "list" == Value.type "dict") = false := by decide
        have isl : (s.heap.push (bareSet w)).IsList l items := ⟨_, g1', rfl, ln, rfl⟩
        unfold Builtin.«set.__init__» noKeywords Builtin.Frozenset.updateFrom
        generalize it0 : pyIter = itf
        wp_walk
        subst it0
        refine wpAny_pyIter_list isl (wpAny_bind (wpAny_runValue ?_))
        have lS : l < s.heap.objs.size := Heap.lt_size g1
        have hh3 : A.in1.in1.in1.handled = none := by simp [hh]
        have szI : (s.heap.push (bareSet w)).objs.size = s.heap.objs.size + 1 := Heap.size_push ..
        have lI : l ≠ (s.heap.push (bareSet w)).objs.size := by
          rw [szI]
          exact Nat.ne_of_lt (Nat.lt_succ_of_lt lS)
        have nSf : s.heap.objs.size ∉ [(s.heap.push (bareSet w)).objs.size, l] := by
          rw [szI]
          simp only [List.mem_cons, List.not_mem_nil, or_false, not_or]
          exact ⟨Nat.ne_of_lt (Nat.lt_succ_self _), Nat.ne_of_gt lS⟩
        have vals : ∀ (i : Nat) (v : Value), items[i]? = some v → ∃ p, ks[i]? = some p ∧ v = .ref p.1 := fun i v e => by
          rw [← Array.getElem?_toList, hit, List.getElem?_map] at e
          cases c : ks[i]? with
          | none => rw [c] at e; cases e
          | some p =>
            rw [c] at e
            cases e
            exact ⟨p, rfl, rfl⟩
        have fresh : ∀ b, s.heap.objs.size ≤ b → s.heap.get? b = none := fun b hb => by
          cases c : s.heap.get? b with
          | none => rfl
          | some o =>
            exact absurd (Nat.lt_of_lt_of_le (Heap.lt_size c) hb) (Nat.lt_irrefl _)
        refine take_up ((Walks.list hh3 _ l lI items).toS) s.heap.objs.size nSf ks isz hD hkD vals s.heap hk (fresh _ (Nat.le_refl _)) (fun b hb => fresh b (by rw [List.mem_singleton.mp hb, szI]; exact Nat.le_succ _)) hu items.size 0 _ (by omega)
          ⟨⟨_, Heap.get?_push_size _ rfl, rfl, rfl⟩, isl.push _⟩ (fun b o e => Heap.get?_push_of_some _ (Heap.get?_push_of_some _ e)) ?begin ?finish
        case begin => exact ⟨[], #[], 0, _, Sx.bare (Heap.get?_push_of_some _ atS), ⟨fun p z => (by cases z), fun p z => (by simp at z)⟩⟩
        case finish =>
          intro s' L es ep t mv x g u
          obtain ⟨h', gs, dr, tk', os'⟩ := s'
          have e1 : gs = s.gens := mv.gens
          have e2 : dr = s.drawn := mv.drawn
          have e3 : os' = s.os := mv.os
          subst e1
          subst e2
          subst e3
          rw [isz] at g
          show wpAny _ _ _ _ _ _
          refine wpAny_pure ?_
          exact wpAny_pure ⟨rfl, h', tk', L, es, ep, t, rfl, x, g, u⟩
      · cases r2 with
        | error e => exact hr2
        | ok f2 =>
          cases f2 with
          | ret r =>
            obtain ⟨rfl, h', tk, L, es, ep, t, rfl, x, g, u⟩ := hr2
            repeat (any_goals (first | assumption | wp_step))
            exact q _ _ _ _ _ _ x g u
          | _ => exact hr2.elim
    | _ => exact hr.elim
end
end SD

set_option Elab.async false
set_option linter.all false
set_option maxRecDepth 100000
set_option maxHeartbeats 4000000
namespace SD
open PySem PySem.Spec PyProof.Rows L2
/-! ### the set as an object of the hand layer -/
structure S0 (P : Program) (w : World) (a : Addr) (L : List (Addr × List L2.Key)) (h : Heap) : Prop where
  ex : ∃ (es : Array (Int × Value)) (ep : Nat) (t : SetTable), (∃ ob, h.get? a = some ob ∧ ob.ExactSet ∧ ob.data = .set es ep t) ∧ (es.toList = L.map fun p => (tupleKeyHash (mixKind P w) p.2, Value.ref p.1)) ∧
    TabOk t (L.map fun p => tupleKeyHash (mixKind P w) p.2) ∧ (L.map Prod.snd).Nodup ∧ t.mask = 7 ∧ L.length ≤ 4
def SxO (P : Program) (w : World) (a : Addr) (L : List (Addr × List L2.Key)) : HO := .ext (S0 P w a L)
section
variable {P : Program} {w : World} {H : Hp} {h : Heap} {a : Addr} {L : List (Addr × List L2.Key)} {es : Array (Int × Value)} {ep : Nat} {t : SetTable}
theorem S0.sets : OfSets a (S0 P w a L) := fun h x => by
  obtain ⟨es, ep, t, ⟨ob, g1, _, g3⟩, _⟩ := x.ex
  exact ⟨ob, es, ep, t, g1, g3⟩
theorem Sx.s0 (R : Sx (mixKind P w) h a L es ep t) : S0 P w a L h := ⟨es, ep, t, R.obj, R.ent, R.tab, R.one, R.m7, R.few⟩
theorem S0.sx (x : S0 P w a L h) (ks : ∀ p ∈ L, IsTupleKey (mixKind P w) h p.2 p.1) : ∃ es ep t, Sx (mixKind P w) h a L es ep t := by
  obtain ⟨es, ep, t, h1, h2, h3, h4, h5, h6⟩ := x.ex
  exact ⟨es, ep, t, ⟨h1, h2, h3, h4, ks, h5, h6⟩⟩
theorem S0.ok (x : S0 P w a L h) : ObjOk P w H h a (SxO P w a L) := by
  obtain ⟨es, ep, t, ⟨ob, g1, g2⟩, r⟩ := x.ex
  refine ⟨x, ⟨ob, g1⟩, fun h1 h2 y up => ?_⟩
  obtain ⟨es', ep', t', ⟨ob', k1, k2⟩, r'⟩ := S0.ex y
  exact ⟨es', ep', t', ⟨ob', up ob' k1, k2⟩, r'⟩
end
theorem refs_vals : ∀ {ps : List (Addr × List L2.Key)} {us : List Value}, Vals (ps.map fun p => V.ref p.1) us → us = ps.map fun p => Value.ref p.1
  | [], _, .nil => rfl
  | p :: ps, _, .cons r t => by
    cases r
    rw [refs_vals t]
    rfl
section
variable {X : Cx} {pins : List (Addr × Obj)} {σ : L2.St} {H : Hp} {s : Shared}
theorem key_of {b : Addr} {k : List L2.Key} (I : Inv X pins σ H s) (h : SqT X.K H b (k.map kV)) : IsTupleKey (mixKind X.prog X.w) s.heap k b := by
  obtain ⟨its, r, ⟨ob, g1, g2, n, g3⟩, _⟩ := I.tuple h
  exact ⟨ob, its.toArray, n, g1, g2, g3, by simpa using items_are r⟩
end
theorem distK_mem : ∀ (l : List (List L2.Key)) (z : List L2.Key), z ∈ distK l ↔ z ∈ l
  | [], z => by simp [distK]
  | x :: r, z => by
    unfold distK
    split
    · rename_i h
      rw [distK_mem r z, List.mem_cons]
      exact ⟨.inr, fun q => q.elim (fun e => e ▸ memK_iff.mp h) id⟩
    · rw [List.mem_cons, List.mem_cons, distK_mem r z]
theorem distK_one : ∀ l : List (List L2.Key), (distK l).Nodup
  | [] => .nil
  | x :: r => by
    unfold distK
    split
    · exact distK_one r
    · rename_i h
      exact List.nodup_cons.mpr ⟨fun z => h (memK_iff.mpr ((distK_mem r x).mp z)), distK_one r⟩
theorem distK_len {l m : List (List L2.Key)} (one : m.Nodup) (same : ∀ z, z ∈ m ↔ z ∈ l) : m.length = (distK l).length :=
  ((List.perm_ext_iff_of_nodup one (distK_one l)).mpr fun z => (same z).trans (distK_mem l z).symm).length_eq
section
variable {K : PySem.W.Frag} {H : Hp} {μ ν : List Addr}
theorem kys_R : ∀ {ds : List D} {vs : List V} {ks : List L2.Key}, Rs K H μ ν ds vs → kysOf ds = some ks → vs = ks.map kV
  | _, _, _, .nil, e => by cases e; rfl
  | _, _, _, .cons (d := d) (ds := ds) r t, e => by
    unfold kysOf at e
    cases q : kyOf d with
    | none => rw [q] at e; cases e
    | some k =>
      rw [q] at e
      cases q2 : kysOf ds with
      | none => rw [q2] at e; cases e
      | some ks =>
        rw [q2] at e
        cases e
        rw [kys_R t q2]
        cases r with
        | int i => cases q; rfl
        | str x => cases q; rfl
        | _ => cases q
theorem tupKs_R : ∀ {ds : List D} {vs : List V} {ks : List (List L2.Key)}, Rs K H μ ν ds vs → tupKs ds = some ks → ∃ ps : List (Addr × List L2.Key), vs = ps.map (fun p => V.ref p.1) ∧ ks = ps.map Prod.snd ∧ ∀ p ∈ ps, AtT K H μ ν p.1 (p.2.map kV)
  | _, _, _, .nil, e => by cases e; exact ⟨[], rfl, rfl, fun p z => absurd z List.not_mem_nil⟩
  | _, _, _, .cons (ds := ds) r t, e => by
    cases r with
    | tup h1 h2 =>
      rename_i a vs' ds'
      unfold tupKs at e
      cases q : kysOf ds' with
      | none => rw [q] at e; cases e
      | some k =>
        rw [q] at e
        cases q2 : tupKs ds with
        | none => simp only [q2] at e; cases e
        | some ks =>
          simp only [q2] at e
          cases e
          obtain ⟨ps, e1, e2, e3⟩ := tupKs_R t q2
          have e4 := kys_R h2 q
          subst e4
          refine ⟨(a, k) :: ps, by rw [e1]; rfl, by rw [e2]; rfl, fun p hp => ?_⟩
          rcases List.mem_cons.mp hp with z | z
          · rw [z]; exact h1
          · exact e3 p z
    | _ => cases e
end
theorem tupKs_app : ∀ {a b : List D} {ks : List (List L2.Key)}, tupKs (a ++ b) = some ks → ∃ k1 k2, tupKs a = some k1 ∧ tupKs b = some k2 ∧ ks = k1 ++ k2
  | [], b, ks, e => ⟨[], ks, rfl, e, rfl⟩
  | .tup ds :: a, b, ks, e => by
    rw [List.cons_append] at e
    unfold tupKs at e
    cases q : kysOf ds with
    | none => rw [q] at e; cases e
    | some k =>
      rw [q] at e
      cases q2 : tupKs (a ++ b) with
      | none => simp only [q2] at e; cases e
      | some ks' =>
        simp only [q2] at e
        cases e
        obtain ⟨k1, k2, h1, h2, h3⟩ := tupKs_app q2
        refine ⟨k :: k1, k2, ?_, h2, by rw [h3]; rfl⟩
        unfold tupKs
        rw [q, h1]
  | .non :: a, b, ks, e => by cases e
  | .bl _ :: a, b, ks, e => by cases e
  | .int _ :: a, b, ks, e => by cases e
  | .str _ :: a, b, ks, e => by cases e
  | .lst _ :: a, b, ks, e => by cases e
  | .ref _ :: a, b, ks, e => by cases e
  | .scr _ :: a, b, ks, e => by cases e
/-! ### set(xs) and len of such a set -/
def rSetKs (K : PySem.W.Frag) (P : Program) (w : World) : List V → Hp → VK → Prop := fun xs H Q => ∃ (l : Addr) (ps : List (Addr × List L2.Key)), xs = [V.ref l] ∧ SqL K H l (ps.map fun p => V.ref p.1) ∧ (∀ p ∈ ps, SqT K H p.1 (p.2.map kV)) ∧ (distK (ps.map Prod.snd)).length ≤ 4 ∧
  ∀ a L, H a = none → (∀ p ∈ L, p ∈ ps) → (∀ p ∈ ps, p.2 ∈ L.map Prod.snd) → (L.map Prod.snd).Nodup → Q (.ref a) (upd H a (SxO P w a L))
def rLenKs (P : Program) (w : World) : List V → Hp → VK → Prop := fun xs H Q => ∃ (a : Addr) (L : List (Addr × List L2.Key)), xs = [V.ref a] ∧ H a = some (SxO P w a L) ∧ Q (.int L.length) H
section
variable {X : Cx}
theorem cr_setKs (hc : X.calm = true) (hu : X.A.units + 64 < cLine) : CallR X (.type "set") (rSetKs X.K X.prog X.w) := by
  intro pins s σ H xs us Q I r h
  obtain ⟨l, ps, rfl, hl, hk, hd, q⟩ := h
  rw [Vals.ref1 r]
  obtain ⟨its, rv, pl, hz⟩ := I.list hl
  refine set_call (P := X.prog) (w := X.w) (kd := mixKind X.prog X.w) ps hd (fun p hp => (distK_mem _ _).mpr (List.mem_map_of_mem hp)) (I.ok.hd hc) pl.isList (by simpa using refs_vals rv) (fun p hp => key_of I (hk p hp)) (by omega) fun h' tk L es ep t R g up => ?_
  refine ⟨.ref s.heap.objs.size, upd H s.heap.objs.size (SxO X.prog X.w s.heap.objs.size L), I.laid (t' := tk) up (Nat.le_refl _) R.s0.ok, rfl, q _ L (I.hok.fresh (Nat.le_refl _)) (fun p hp => List.mem_of_mem_take (g.sub p hp)) (fun p hp => ?_) R.one⟩
  exact g.all p (by rw [List.take_length]; exact hp)
theorem cr_lenKs : CallR X (.builtin "len") (rLenKs X.prog X.w) := by
  intro pins s σ H xs us Q I r h
  obtain ⟨a, L, rfl, ha, q⟩ := h
  rw [Vals.ref1 r]
  have x : S0 X.prog X.w a L s.heap := (I.hok a _ ha).1
  obtain ⟨es, ep, t, ⟨ob, g1, g2, g3⟩, ent, tab, one, m7, few⟩ := x.ex
  have sz : es.size = L.length := by rw [← Array.length_toList, ent, List.length_map]
  have fit : t.fits es.size = true := by
    have h1 := tab.sz
    rw [List.length_map] at h1
    unfold SetTable.fits SetTable.fill
    rw [tab.dm, sz, h1, m7, Bool.and_eq_true, beq_iff_eq, decide_eq_true_eq]
    exact ⟨rfl, by show L.length + 0 ≤ 7; omega⟩
  exact call_len_set g1 g2 g3 fit (by rw [sz]; omega) ⟨.int L.length, H, I.tok _, ⟨_, by rw [sz]⟩, q⟩
variable {S : Side} {W : WX} {e : Expr} {f : Env → Mem → Res D} {p p2 pos q : Pos}
theorem c_lenSetP (hc : X.calm = true) (hu : X.A.units + 64 < cLine) (hg : Gl X "len") (hm : X.mg "len" = none) (hg2 : Gl X "set") (hm2 : X.mg "set" = none) (he : PE X e (T X.K S W f)) (hs : starEach [e] X.env = (false, eval e X.env) :: starEach [] X.env := by rfl)
    (hs2 : starEach [.Call (.Name "set" p2) [e] [] q] X.env = (false, eval (.Call (.Name "set" p2) [e] [] q) X.env) :: starEach [] X.env := by rfl) (hpl : (backTo q (starEach [] X.env)).any (·.1) = false := by rfl) (hpl2 : (backTo pos (starEach [] X.env)).any (·.1) = false := by rfl) :
    PE X (.Call (.Name "len" p) [.Call (.Name "set" p2) [e] [] q] [] pos) (T X.K S W (fGo gLenSetP f)) :=
  (pe_callB cr_lenKs hg hm PySem.boot_len (pa_cons (pe_callTy (cr_setKs hc hu) hg2 hm2 PyProof.Rows.boot_set (pa_cons he pa_nil hs) (by decide) (by decide) hs hpl) pa_nil hs2) (by decide) (by decide) hs2 hpl2).imp fun σ H Q h =>
    Tg.bind (k := fun _ => gLenSetP) h fun ρ μ ν M d x H1 j e s rd o => by
      unfold gLenSetP at o
      cases q1 : lstOf M d with
      | none => rw [q1] at o; exact o.elim
      | some ds =>
        rw [q1] at o
        unfold gLenKs at o
        cases q2 : tupKs ds with
        | none => simp only [q2] at o; exact o.elim
        | some ks =>
          simp only [q2] at o
          by_cases h4 : (distK ks).length ≤ 4
          · rw [if_pos h4] at o
            obtain ⟨l, vs, rfl, h1, h2⟩ := lstOf_at rd s q1
            obtain ⟨ps, e1, e2, e3⟩ := tupKs_R h2 q2
            subst e1
            subst e2
            refine ⟨l, ps, rfl, .inl (.inl h1), fun p hp => (e3 p hp).seq, h4, fun a L ha hL hL2 one => ?_⟩
            have len : L.length = (distK (ps.map Prod.snd)).length := by
              rw [← distK_len (l := ps.map Prod.snd) one fun z => ⟨fun hz => ?_, fun hz => ?_⟩, List.length_map]
              · obtain ⟨p, hp, rfl⟩ := List.mem_map.mp hz
                exact List.mem_map_of_mem (hL p hp)
              · obtain ⟨p, hp, rfl⟩ := List.mem_map.mp hz
                exact hL2 p hp
            exact ⟨a, L, rfl, upd_same, o _ _ _ (ext_fresh ha (s.notin ha)) (by rw [len]; exact .int _) (s.up (up_fresh ha))⟩
          · rw [if_neg h4] at o
            exact o.elim
end
end SD

set_option Elab.async false
set_option linter.all false
set_option maxRecDepth 100000
set_option maxHeartbeats 4000000
namespace SD
open PySem PySem.Spec PyProof.Rows L2
/-! ### a set comprehension of such tuples -/
/-- the loop's word: D is the new set -/
def tSk (P : Program) (w : World) (K : PySem.W.Frag) (wi : TI) (g : TG) (tt : TT) (te : TE) (vs : List Nat) : TE := fun σ H Q => wi σ H fun J H1 => ∀ D, H1 D = none → ∃ W : Nat → Nat → Hp → Prop,
  (∃ m, W 0 m (upd H1 D (SxO P w D []))) ∧ ∀ i m H, W i m H → (J.stop i H ∧ Q (.ref D) H) ∨ (J.go i H ∧ ∃ Nx : Hp → Prop, (∀ H', Nx H' → ∃ m', m' < m ∧ W (i + 1) m' H') ∧
    ∀ x H', J.yld i H x H' → g x (wipe σ vs) H' fun σ2 H2 => wipe σ2 vs = wipe σ vs ∧ tt σ2 H2 fun b H3 => if b = true then te σ2 H3 fun y H4 => ∃ (L : List (Addr × List L2.Key)) (p : Addr) (k : List L2.Key),
      y = .ref p ∧ H4 D = some (SxO P w D L) ∧ SqT K H4 p (k.map kV) ∧ (∀ q ∈ L, SqT K H4 q.1 (q.2.map kV)) ∧ (k ∉ L.map Prod.snd → L.length < 4) ∧
      ∀ L', (k ∈ L.map Prod.snd → L' = L) → (k ∉ L.map Prod.snd → L'.Perm ((p, k) :: L)) → (L'.map Prod.snd).Nodup → Nx (upd H4 D (SxO P w D L')) else Nx H3)
section
variable {X : Cx}
theorem sx_put {pins : List (Addr × Obj)} {σ : L2.St} {H : Hp} {s : Shared} {E : Value → Shared → Prop} {D p : Addr} {L : List (Addr × List L2.Key)} {k : List L2.Key} {Q : Value → Shared → Prop} (hu : X.A.units + 64 < cLine) (I : Inv X pins σ H s) (hD : H D = some (SxO X.prog X.w D L))
    (hk : SqT X.K H p (k.map kV)) (hL : ∀ q ∈ L, SqT X.K H q.1 (q.2.map kV)) (room : k ∉ L.map Prod.snd → L.length < 4)
    (h : ∀ s' L', (k ∈ L.map Prod.snd → L' = L) → (k ∉ L.map Prod.snd → L'.Perm ((p, k) :: L)) → (L'.map Prod.snd).Nodup → Inv X pins σ (upd H D (SxO X.prog X.w D L')) s' → Q .none s') :
    wpAny (model X.prog X.w) X.A (call (.builtin "set.add") [.ref D, .ref p]) Q E s := by
  obtain ⟨es, ep, t, R⟩ := S0.sx (I.hok D _ hD).1 fun q hq => key_of I (hL q hq)
  obtain ⟨ob, g1, g2, g3⟩ := R.obj
  have key := key_of I hk
  have ty : s.TypeIs (.ref D) "set" := ⟨ob, g1, g2.1⟩
  refine wpAny_call_entry F.slot_set_add ty F.entry_set_add ?_ (F.args_set_add_2 _ _)
  unfold Builtin.«set.add» Builtin.Frozenset.oneOther
  simp only [bind_assoc, List.isEmpty_nil]
  unfold Builtin.Frozenset.addrOf setAdd
  refine wpAny_bind (wpAny_pure ?_)
  try dsimp only
  refine wpAny_bind (wpAny_pure ?_)
  try dsimp only
  have hu1 : X.A.in1.units < cLine := by
    show X.A.units + 1 < cLine
    omega
  refine wpAny_bind (wpAny_holding (wpAny_bind (wpAny_pyHash_tuple hu1 key ?_)))
  refine Sx.add (s := { s with toks := s.toks + (k.length + 1) }) R key hu1 room fun b h' L' es' ep' t' sb R' c1 c2 => ?_
  show wpAny _ _ (ret Value.none) _ _ _
  have here : ∃ u, h'.get? D = some u := by
    obtain ⟨ob', k1, _⟩ := R'.obj
    exact ⟨ob', k1⟩
  exact wpAny_pure ⟨_, rfl, h _ L' c1 c2 R'.one (I.write (e := D) (t' := s.toks + (k.length + 1)) (by rw [hD]; trivial) (.inl rfl) (fun c u nc e => (sb.2 c nc).trans e) here R'.s0.ok)⟩
theorem sk_core {pins : List (Addr × Obj)} {s : Shared} {σ : L2.St} {H : Hp} {Q : VK} {elt tg iter : Expr} {ifs : List Expr} {scope : Scope} {own : List (Str × Nat)} {pos pos' : Pos} {wi : TI} {g : TG} {tt : TT} {te : TE} {use : Option (Value → Sem Unit)} {Qf : Value → Shared → Prop}
    (hc : X.calm = true) (hu : X.A.units + 64 < cLine) (hN : X.N.Nodup) (I : Inv X pins σ H s) (hi : PI X tg iter wi) (ok : BlkOk X.N X.env.scope scope own)
    (hg : ∀ (s : Shared) (H : Hp) (C : Addr) (cl : List (Str × Addr)) (fp : List Addr), PG (X.blk s H scope (compEnvC scope cl C X.env) fp) tg g)
    (ht : ∀ (s : Shared) (H : Hp) (C : Addr) (cl : List (Str × Addr)) (fp : List Addr), PTs (X.blk s H scope (compEnvC scope cl C X.env) fp) ifs tt)
    (he : ∀ (s : Shared) (H : Hp) (C : Addr) (cl : List (Str × Addr)) (fp : List Addr), PE (X.blk s H scope (compEnvC scope cl C X.env) fp) elt te)
    (hs : ∀ x, foldedSetIterable iter X.env x = pure x) (h : tSk X.prog X.w X.K wi g tt te (own.map (·.2)) σ H Q)
    (fin : ∀ D C s' m H', Inv X pins σ H' s' → Q (.ref D) H' → s'.heap.Ns C m → FpOk X pins H' C → compPost (model X.prog X.w) X.A X.xe use Qf (.ref D) C (.ok .next) s') :
    wpAny (model X.prog X.w) X.A (comprehension (.SetComp elt [⟨tg, iter, ifs, 0⟩] scope pos) scope X.env pos' (newSet (.type "set")) false (eval iter X.env) use) Qf X.xe s := by
  have cells : ∀ y ∈ scope.names, y.2 = .free → ∃ c, X.env.cells.lookup y.1 = some c := fun y hy e => (ok.free y hy e).elim (fun k => I.ok.has _ (.inl k)) fun k => I.ok.has _ (.inr k)
  refine wpAny_comprehension_free (use := use) rfl hs (closure_ok cells) ok.kind (fun y hy e => by rw [ok.uniq y hy, e]) (thn (hi.run pins s σ H _ I h) fun v0 s1 h1 => thn h1 fun v1 s2 h2 => ?_)
  obtain ⟨it, fp, tn, J, H2, rfl, I2, walk, st2, free2, q⟩ := h2
  refine PpSet.newSet_ok (newEnv_comp ?_)
  generalize eD : s2.heap.objs.size = D
  have D0 : H2 D = none := I2.hok.fresh (Nat.le_of_eq eD)
  obtain ⟨W, ⟨m0, w0⟩, turn⟩ := q D D0
  generalize e3 : ({ s2 with heap := s2.heap.push (bareSet X.w) } : Shared) = s3
  have h3 : s3.heap = s2.heap.push (bareSet X.w) := by rw [← e3]
  have I3 : Inv X pins σ (upd H2 D (SxO X.prog X.w D [])) s3 := by
    rw [← e3]
    refine I2.laid (t' := s2.toks) (fun b o e => Heap.get?_push_of_some _ e) (Nat.le_of_eq eD) (S0.ok (Sx.s0 (Sx.bare (P := X.prog) ?_)))
    rw [← eD]
    exact Heap.get?_push_size _ rfl
  have below : ∀ b ∈ fp, b < s2.heap.objs.size := fun b hb => let ⟨o, e, _⟩ := walk.obj _ _ st2 b hb; Heap.lt_size e
  have free3 : ∀ b ∈ fp, FpOk X pins (upd H2 D (SxO X.prog X.w D [])) b ∧ b < s3.heap.objs.size := fun b hb => by
    have lt := below b hb
    refine ⟨⟨?_, (free2 b hb).2⟩, by rw [h3, Heap.size_push]; exact Nat.lt_succ_of_lt lt⟩
    rw [upd_ne (by rw [← eD]; exact Nat.ne_of_lt lt)]
    exact (free2 b hb).1
  have st3 : tn 0 s3.heap := walk.keep _ _ _ st2 fun b _ o e => by rw [h3]; exact Heap.get?_push_of_some _ e
  have I4 := block_start I3 ok hN free3
  have rg := hg s3 (upd H2 D (SxO X.prog X.w D [])) s3.heap.objs.size (cellsFrom (s3.heap.objs.size + 1) scope.names (cloFrom X.env.cells scope.names [])) fp
  have rt := ht s3 (upd H2 D (SxO X.prog X.w D [])) s3.heap.objs.size (cellsFrom (s3.heap.objs.size + 1) scope.names (cloFrom X.env.cells scope.names [])) fp
  have re := he s3 (upd H2 D (SxO X.prog X.w D [])) s3.heap.objs.size (cellsFrom (s3.heap.objs.size + 1) scope.names (cloFrom X.env.cells scope.names [])) fp
  show codeAny _ _ (.compStart (.SetComp elt [⟨tg, iter, ifs, 0⟩] scope pos) 0 (.ref it) (.ref D) (compEnvC scope (cellsFrom (s3.heap.objs.size + 1) scope.names (cloFrom X.env.cells scope.names [])) s3.heap.objs.size X.env)) (compPost (model X.prog X.w) X.A X.xe use Qf (.ref D) s3.heap.objs.size)
    { s3 with heap := pushCells (s3.heap.push { cls := .type "dict", data := .dict #[] }) scope.names }
  have none3 : ∀ b ∈ fp, (upd H2 D (SxO X.prog X.w D [])) b = none := fun b hb => (free3 b hb).1.1
  generalize eE : compEnvC scope (cellsFrom (s3.heap.objs.size + 1) scope.names (cloFrom X.env.cells scope.names [])) s3.heap.objs.size X.env = ce at I4 rg rt re ⊢
  have loc : ce.locals = s3.heap.objs.size := by subst eE; rfl
  generalize eH : upd H2 D (SxO X.prog X.w D []) = H3 at I3 I4 rg rt re w0 none3 free3
  generalize e4 : ({ s3 with heap := pushCells (s3.heap.push { cls := .type "dict", data := .dict #[] }) scope.names } : Shared) = s4 at I4 ⊢
  have st4 : tn 0 s4.heap := walk.keep _ _ _ st3 fun b _ o e => by rw [← e4]; exact pushCells_keeps _ _ _ _ (Heap.get?_push_of_some _ e)
  have foot : ∀ {σ' : L2.St} {H' : Hp} {s' : Shared}, Inv (X.blk s3 H3 scope ce fp) [] σ' H' s' → (∀ b ∈ fp, H' b = none) → ∀ b ∈ fp, FpOk (X.blk s3 H3 scope ce fp) [] H' b := fun I' no b hb =>
    ⟨no b hb, (I'.ok.exf b hb).1, I'.ok.exfs b hb, .inl hb, fun x c e => (I'.ok.exf b hb).2 x c e, fun r hr => absurd (show r ∈ ([] : List (Addr × Obj)) ++ [] from hr) (by simp)⟩
  have loop : codeAny (model X.prog X.w) X.A (.compLoop (.SetComp elt [⟨tg, iter, ifs, 0⟩] scope pos) 0 (.ref it) (.ref D) ce) (compPost (model X.prog X.w) X.A X.xe use Qf (.ref D) s3.heap.objs.size) s4 := by
    refine PpSet.compLoopS_any (fun n s' => ∃ i H', Inv (X.blk s3 H3 scope ce fp) [] (wipe σ (own.map (·.2))) H' s' ∧ tn i s'.heap ∧ (∀ b ∈ fp, H' b = none) ∧ W i n H') ?_ m0 ⟨0, H3, I4, st4, none3, w0⟩
    rintro n s5 ⟨i, H5, I5, st5, none5, w5⟩
    rcases turn i n H5 w5 with ⟨over, q5⟩ | ⟨more, Nx, hNx, one⟩
    · refine thnF (walk.done (X.blk s3 H3 scope ce fp) rfl rfl rfl hc i [] s5 _ H5 (fun _ _ => False) I5 (foot I5 none5) st5 over) fun r s6 ⟨er, I6⟩ => ?_
      subst er
      have I7 : Inv X pins σ H5 s6 := I3.call' (ch := fp) I6.os I6.base I6.hok I6.bare fun b hb => let z := (free3 b hb).1.2; ⟨z.2.2.1, z.1, z.2.2.2.1, z.2.2.2.2⟩
      have C0 : H5 s3.heap.objs.size = none := by
        have z : H5 ce.locals = none := I6.free
        rwa [loc] at z
      obtain ⟨m, ns, _⟩ := I6.loc
      have ns' : s6.heap.Ns ce.locals m := ns
      rw [loc] at ns'
      exact fin D s3.heap.objs.size s6 m H5 I7 q5 ns' (I3.fpOk (Nat.le_refl _) C0)
    · refine thnF (walk.item (X.blk s3 H3 scope ce fp) rfl rfl rfl hc i [] s5 _ H5 (fun _ _ => False) I5 (foot I5 none5) st5 more) fun r s6 ⟨u, er, h6⟩ => ?_
      subst er
      refine thnF h6 fun _ s7 ⟨x, H7, I7, rel7, y7, st7, none7⟩ => ?_
      refine thnF (rg.run _ s7 _ H7 x u _ (I7.pinned (foot I7 none7) (walk.obj _ _ st7)) rel7 (one x H7 y7)) fun _ s8 ⟨σ8, H8, I8, w8, q8⟩ => ?_
      refine thnF (rt.run _ s8 σ8 H8 _ I8 q8) fun b s9 ⟨H9, I9, q9⟩ => ?_
      have again : ∀ {s' : Shared} {H' : Hp}, Inv (X.blk s3 H3 scope ce fp) ([] ++ pinsAt fp s7.heap) σ8 H' s' → Nx H' → ∃ m, m < n ∧ ∃ i H', Inv (X.blk s3 H3 scope ce fp) [] (wipe σ (own.map (·.2))) H' s' ∧ tn i s'.heap ∧ (∀ b ∈ fp, H' b = none) ∧ W i m H' := fun {s' H'} I' nx => by
        obtain ⟨m', lt, w'⟩ := hNx H' nx
        have pinned : ∀ b ∈ fp, ∀ o, s7.heap.get? b = some o → s'.heap.get? b = some o ∧ H' b = none := fun b hb o e => let z := I'.pin (b, o) (List.mem_append_right _ (List.mem_append_right _ (mem_pinsAt hb e))); ⟨z.1, z.2.1⟩
        have wl : (wipe σ (own.map (·.2))).length = σ8.length := by rw [← w8, wipe_length]
        refine ⟨m', lt, i + 1, H', (I'.unpinned (pins := [])).weak wl (fun j v e => ?_), walk.keep _ _ _ st7 fun b hb o e => (pinned b hb o e).1, fun b hb => ?_, w'⟩
        · rw [← w8] at e
          exact (wipe_some e).1
        · obtain ⟨o, e, _⟩ := walk.obj _ _ st7 b hb
          exact (pinned b hb o e).2
      cases b with
      | false =>
        simp only [if_false, Bool.false_eq_true] at q9 ⊢
        exact again I9 q9
      | true =>
        simp only [if_true] at q9 ⊢
        refine thnF (re.run _ s9 σ8 H9 _ I9 q9) fun z s10 ⟨yv, H10, I10, r10, L, p, k, ey, hD, hk, hL, room, nx⟩ => ?_
        subst ey
        cases (show z = Value.ref p from r10)
        exact sx_put (X := X.blk s3 H3 scope ce fp) hu I10 hD hk hL room fun s11 L' c1 c2 one1 I11 => again I11 (nx L' c1 c2 one1)
  exact PpSet.codeAny_compStart_set loop (walk.self X.A 0 _ _ _ st4 loop)
theorem pe_sk {elt tg iter : Expr} {ifs : List Expr} {scope : Scope} {own : List (Str × Nat)} {pos : Pos} {wi : TI} {g : TG} {tt : TT} {te : TE} (hc : X.calm = true) (hu : X.A.units + 64 < cLine) (hN : X.N.Nodup) (hi : PI X tg iter wi) (ok : BlkOk X.N X.env.scope scope own)
    (hg : ∀ (s : Shared) (H : Hp) (C : Addr) (cl : List (Str × Addr)) (fp : List Addr), PG (X.blk s H scope (compEnvC scope cl C X.env) fp) tg g)
    (ht : ∀ (s : Shared) (H : Hp) (C : Addr) (cl : List (Str × Addr)) (fp : List Addr), PTs (X.blk s H scope (compEnvC scope cl C X.env) fp) ifs tt)
    (he : ∀ (s : Shared) (H : Hp) (C : Addr) (cl : List (Str × Addr)) (fp : List Addr), PE (X.blk s H scope (compEnvC scope cl C X.env) fp) elt te) (hs : ∀ x, foldedSetIterable iter X.env x = pure x) :
    PE X (.SetComp elt [⟨tg, iter, ifs, 0⟩] scope pos) (tSk X.prog X.w X.K wi g tt te (own.map (·.2))) := ⟨fun pins s σ H Q I h => by
  rw [PpSet.eval_SetComp]
  refine sk_core hc hu hN I hi ok hg ht he hs h fun D C s' m H' I' q ns f => ⟨m, ns, fun h2 sb => ?_⟩
  obtain ⟨f0, f1, f2, f3, f4, f5⟩ := f
  exact ⟨.ref D, H', I'.turned (t' := s'.toks) (fun b o hb e => (sb.2 b hb).trans e) f0 f1 f3 f4 f5, rfl, q⟩⟩
end
end SD

set_option Elab.async false
set_option linter.all false
set_option maxRecDepth 100000
set_option maxHeartbeats 4000000
namespace SD
open PySem PySem.Spec PyProof.Rows L2
theorem compGo_grows {src : Src} {own : List Nat} {asg : D → Env → Option Env} {t : Env → Mem → Res Bool} {f : Env → Mem → Res D} {ρ : Env} : ∀ (k i : Nat) (acc : List D) (M : Mem) {ds : List D} {M' : Mem}, compGo src own asg t f ρ k i acc M = .ok ds M' → ∃ r, ds = acc ++ r
  | 0, i, acc, M, ds, M', h => by
    unfold compGo at h
    split at h
    · cases h; exact ⟨[], by simp⟩
    · cases h
  | k + 1, i, acc, M, ds, M', h => by
    unfold compGo at h
    split at h
    · cases h
    · split at h
      · cases h
      · rename_i ρ' _
        cases q : t ρ' M with
        | exn x M1 => rw [q] at h; cases h
        | stuck => rw [q] at h; cases h
        | ok b M1 =>
          rw [q] at h
          simp only [SD.noX, Res.bind] at h
          cases b with
          | false => exact compGo_grows k (i + 1) acc M1 (by simpa using h)
          | true =>
            simp only [if_true] at h
            cases q2 : f ρ' M1 with
            | exn x M2 => rw [q2] at h; cases h
            | stuck => rw [q2] at h; cases h
            | ok y M2 =>
              rw [q2] at h
              simp only at h
              split at h
              · obtain ⟨r, e⟩ := compGo_grows k (i + 1) (acc ++ [y]) M2 h
                exact ⟨y :: r, by rw [e]; simp⟩
              · cases h
section
variable {X : Cx} {S : Side} {W : WX} {elt tg iter : Expr} {f : Env → Mem → Res D} {t : Env → Mem → Res Bool} {it : Env → Mem → Res Src} {asg : D → Env → Option Env} {ix : List Nat} {ifs : List Expr} {scope : Scope} {own : List (Str × Nat)} {p p2 pos q : Pos}
theorem set_read (hS : S.AnyN) (hx : ∀ i ∈ ix, i ∈ own.map (·.2)) (hy : ∀ i ∈ S.fix, i ∉ own.map (·.2)) {σ : L2.St} {H : Hp} {Q : VK} (h : T X.K S W (fLenSetC (fComp it (own.map (·.2)) asg t f)) σ H Q) :
    tSk X.prog X.w X.K (TIc X.K S W it) (GTc X.K S.Tb asg ix) (TB X.K S WF t) (T X.K S WF f) (own.map (·.2)) σ H fun v H1 => rLenKs X.prog X.w [v] H1 Q := by
  have h' : Tg X.K S W (rD X.K) (fun ρ M => (it ρ M).bind fun src M1 => (compGo src (own.map fun (x : Str × Nat) => x.2) asg t f ρ (src.get M1).length 0 [] M1).bind gLenKs) σ H Q := by
    obtain ⟨ρ, μ, ν, M, j, e, s, o⟩ := h
    refine ⟨ρ, μ, ν, M, j, e, s, ?_⟩
    unfold fLenSetC fComp at o
    show Ok X.K S.Tb W σ ν (rD X.K) H μ Q ((it ρ M).bind _)
    cases q : it ρ M with
    | ok src M1 => rw [q] at o; exact o
    | exn x M1 => rw [q] at o; exact o
    | stuck => rw [q] at o; exact o
  refine Tg.bind (rel := rI X.K S.Tb) (k := fun ρ (src : Src) M1 => (compGo src (own.map fun (x : Str × Nat) => x.2) asg t f ρ (src.get M1).length 0 [] M1).bind gLenKs) h' fun ρ μ1 ν M src J H1 j1 e1 s1 rI o => ?_
  intro p hp
  -- what comes of it is known beforehand
  obtain ⟨ds, Mz, ks, out, keys, four, done⟩ : ∃ ds Mz ks, compGo src (own.map fun (x : Str × Nat) => x.2) asg t f ρ (src.get M).length 0 [] M = .ok ds Mz ∧ tupKs ds = some ks ∧ (distK ks).length ≤ 4 ∧
      ∀ H' μ', Ext H1 μ1 H' μ' → SR X.K S.Tb H' μ' ν Mz → Q (.int (distK ks).length) H' := by
    cases q : compGo src (own.map fun (x : Str × Nat) => x.2) asg t f ρ (src.get M).length 0 [] M with
    | exn x M2 =>
      exfalso
      have key : ∀ (k i : Nat) (acc : List D) (M : Mem), compGo src (own.map fun (x : Str × Nat) => x.2) asg t f ρ k i acc M ≠ .exn x M2 := by
        intro k
        induction k with
        | zero =>
          intro i acc M z
          unfold compGo at z
          split at z <;> cases z
        | succ k ih =>
          intro i acc M z
          unfold compGo at z
          split at z
          · cases z
          · split at z
            · cases z
            · rename_i ρ' _
              cases q1 : t ρ' M with
              | exn _ _ => rw [q1] at z; cases z
              | stuck => rw [q1] at z; cases z
              | ok b M1 =>
                rw [q1] at z
                simp only [SD.noX, Res.bind] at z
                cases b with
                | false => exact ih _ _ _ (by simpa using z)
                | true =>
                  simp only [if_true] at z
                  cases q2 : f ρ' M1 with
                  | exn _ _ => rw [q2] at z; cases z
                  | stuck => rw [q2] at z; cases z
                  | ok y M3 =>
                    rw [q2] at z
                    simp only at z
                    split at z
                    · exact ih _ _ _ z
                    · cases z
      exact key _ _ _ _ q
    | stuck => rw [q] at o; exact o.elim
    | ok ds Mz =>
      rw [q] at o
      have o : Ok X.K S.Tb W σ ν (rD X.K) H1 μ1 Q (gLenKs ds Mz) := o
      unfold gLenKs at o
      cases q2 : tupKs ds with
      | none => simp only [q2] at o; exact o.elim
      | some ks =>
        simp only [q2] at o
        by_cases h4 : (distK ks).length ≤ 4
        · rw [if_pos h4] at o
          exact ⟨ds, Mz, ks, rfl, q2, h4, fun H' μ' x s => o _ H' μ' x (.int _) s⟩
        · rw [if_neg h4] at o
          exact o.elim
  refine ⟨fun i m H => ∃ (μ : List Addr) (M : Mem) (acc : List D) (va : List V) (L : List (Addr × List L2.Key)), Ext H1 μ1 H μ ∧ SR X.K S.Tb H μ (p :: ν) M ∧ REnv X.K H μ (p :: ν) ρ σ ∧ ItOk X.K S.Tb J src H μ (p :: ν) ∧ H p = some (SxO X.prog X.w p L) ∧ Rs X.K H μ (p :: ν) acc va ∧
    (∀ q ∈ L, AtT X.K H μ (p :: ν) q.1 (q.2.map kV)) ∧ (L.map Prod.snd).Nodup ∧ (∀ ka, tupKs acc = some ka → ∀ z, z ∈ L.map Prod.snd ↔ z ∈ ka) ∧ compGo src (own.map fun (x : Str × Nat) => x.2) asg t f ρ m i acc M = .ok ds Mz,
    ⟨_, μ1, M, [], [], [], ext_fresh hp (s1.notin hp), s1.aside hp, e1.aside (aside_fresh hp), rI.aside (aside_fresh hp), upd_same, .nil, fun q z => absurd z List.not_mem_nil, .nil, fun ka e z => by cases e; exact Iff.rfl, out⟩, ?_⟩
  rintro i m H' ⟨μ', M', acc, va, L, x', s', e', r', hD, ra, at_, one, same, o'⟩
  have tn := r'.turn s' i
  -- the keys so far lie among all
  obtain ⟨rest, eds⟩ := compGo_grows _ _ _ _ o'
  obtain ⟨ka, kb, ea, eb, eab⟩ := tupKs_app (a := acc) (b := rest) (ks := ks) (by rw [← eds]; exact keys)
  have sm := same ka ea
  cases m with
  | zero =>
    unfold compGo at o'
    by_cases hl : (src.get M').length = i
    · rw [if_pos hl] at o'
      cases o'
      obtain rfl : ks = ka := Option.some.inj (keys.symm.trans ea)
      refine .inl ⟨tn.2 (Nat.le_of_eq hl), p, L, rfl, hD, ?_⟩
      have len : L.length = (distK ks).length := by rw [← distK_len one sm, List.length_map]
      rw [len]
      exact done H' μ' x' s'.release
    · rw [if_neg hl] at o'
      cases o'
  | succ k =>
    unfold compGo at o'
    cases hd : (src.get M')[i]? with
    | none => rw [hd] at o'; cases o'
    | some d =>
      simp only [hd] at o'
      cases ha : asg d (wipeE ρ (own.map fun (x : Str × Nat) => x.2)) with
      | none => simp only [ha] at o'; cases o'
      | some ρ1 =>
        simp only [ha] at o'
        obtain ⟨go, yl⟩ := tn.1 d hd
        refine .inr ⟨go, fun H2 => ∃ (μ : List Addr) (M : Mem) (acc : List D) (va : List V) (L : List (Addr × List L2.Key)), Ext H1 μ1 H2 μ ∧ SR X.K S.Tb H2 μ (p :: ν) M ∧ REnv X.K H2 μ (p :: ν) ρ σ ∧ ItOk X.K S.Tb J src H2 μ (p :: ν) ∧ H2 p = some (SxO X.prog X.w p L) ∧ Rs X.K H2 μ (p :: ν) acc va ∧
          (∀ q ∈ L, AtT X.K H2 μ (p :: ν) q.1 (q.2.map kV)) ∧ (L.map Prod.snd).Nodup ∧ (∀ ka, tupKs acc = some ka → ∀ z, z ∈ L.map Prod.snd ↔ z ∈ ka) ∧ compGo src (own.map fun (x : Str × Nat) => x.2) asg t f ρ k (i + 1) acc M = .ok ds Mz,
          fun H2 z => ⟨k, Nat.lt_succ_self k, z⟩, fun x H2 y => ?_⟩
        obtain ⟨up, rd⟩ := yl x H2 y
        have x2 : Ext H' μ' H2 μ' := ext_up up
        have s2 := s'.up up
        have hD2 : H2 p = some (SxO X.prog X.w p L) := up _ _ hD
        refine ⟨d, _, μ', p :: ν, M', ρ1, rd, (e'.ext x2).wipe _, s2, ha, fun σ3 e3 c3 => ?_⟩
        have k3 : Kp S.fix σ σ3 := fun i hi => by rw [c3.2 i fun z => hy i hi (hx i z), wipe_out (hy i hi)]
        refine ⟨wipe_chg c3 hx, ρ1, μ', p :: ν, M', S.mv (hS (S.st j1 (x'.trans x2))) k3, e3, s2, ?_⟩
        have known : ∀ {α : Type} {r : Res α} {kk : α → Mem → Res (List D)}, (SD.noX r).bind kk = .ok ds Mz → ∃ a M2, r = .ok a M2 ∧ kk a M2 = .ok ds Mz := by
          intro α r kk z
          cases r with
          | ok a M2 => exact ⟨a, M2, rfl, z⟩
          | exn x M2 => cases z
          | stuck => cases z
        obtain ⟨b, M3, hb, o3⟩ := known o'
        rw [hb]
        intro b' H3 μ3 x3 rb s3
        cases rb
        have x13 : Ext H1 μ1 H3 μ3 := (x'.trans x2).trans x3
        have r3 : ItOk X.K S.Tb J src H3 μ3 (p :: ν) := (r'.ext x2).ext x3
        have hn0 : p ∉ μ' := (s'.res p List.mem_cons_self).2
        obtain ⟨hD3, hn3⟩ := x3.keep p _ hD2 hn0 (fun ps z => by cases z)
        have at3 : ∀ q ∈ L, AtT X.K H3 μ3 (p :: ν) q.1 (q.2.map kV) := fun q hq => ((at_ q hq).ext x2).ext x3
        cases b with
        | false =>
          rw [if_neg Bool.false_ne_true]
          rw [if_neg Bool.false_ne_true] at o3
          exact ⟨μ3, M3, acc, va, L, x13, s3, (e'.ext x2).ext x3, r3, hD3, (ra.ext x2).ext x3, at3, one, same, o3⟩
        | true =>
          rw [if_pos rfl]
          rw [if_pos rfl] at o3
          obtain ⟨y4, M4, hf, o4⟩ := known o3
          refine ⟨ρ1, μ3, p :: ν, M3, S.mv (hS (S.st j1 x13)) k3, e3.ext x3, s3, ?_⟩
          rw [hf]
          intro v4 H4 μ4 x4 ry s4
          obtain ⟨hD4, hn4⟩ := x4.keep p _ hD3 hn3 (fun ps z => by cases z)
          by_cases hl : acc.length < line
          · rw [if_pos hl] at o4
            -- the new one is a tuple of keys
            obtain ⟨rest2, eds2⟩ := compGo_grows _ _ _ _ o4
            obtain ⟨kc, kd, ec, _, ecd⟩ := tupKs_app (a := acc ++ [y4]) (b := rest2) (ks := ks) (by rw [← eds2]; exact keys)
            obtain ⟨k1, k2, f1, f2, f3⟩ := tupKs_app ec
            rw [ea] at f1
            cases f1
            obtain ⟨ps, g1, g2, g3⟩ := tupKs_R (Rs.cons ry .nil) f2
            match ps, g1, g2, g3 with
            | [], g1, _, _ => cases g1
            | (a, kk) :: (_ :: _), g1, _, _ => cases g1
            | [(a, kk)], g1, g2, g3 =>
              have ev : v4 = V.ref a := by
                have := congrArg (fun l => l[0]?) g1
                exact Option.some.inj this
              subst ev
              subst g2
              have atk := g3 (a, kk) List.mem_cons_self
              have at4 : ∀ q ∈ L, AtT X.K H4 μ4 (p :: ν) q.1 (q.2.map kV) := fun q hq => (at3 q hq).ext x4
              have all : ∀ z, z ∈ ka ++ [kk] → z ∈ distK ks := fun z hz => (distK_mem ks z).mpr (by rw [ecd, f3]; exact List.mem_append_left _ hz)
              refine ⟨L, a, kk, rfl, hD4, atk.seq, fun q hq => (at4 q hq).seq, room_of four one (fun q hq => all _ (List.mem_append_left _ ((sm _).mp (List.mem_map_of_mem hq)))) (all _ (List.mem_append_right _ (List.mem_singleton.mpr rfl))), fun L' c1 c2 one' => ?_⟩
              have ra4 : Rs X.K H4 μ4 (p :: ν) acc va := ((ra.ext x2).ext x3).ext x4
              have hm : p ∈ p :: ν := List.mem_cons_self
              refine ⟨μ4, M4, acc ++ [y4], va ++ [V.ref a], L', ext_wr (x13.trans x4) (.of hp), s4.wrx S0.sets hm hD4, (((e'.ext x2).ext x3).ext x4).wr hm hD4, (r3.ext x4).wr hm hD4, upd_same, (ra4.wr hm hD4).append (.cons (ry.wr hm hD4) .nil), fun q hq => ?_, one', fun kz ez z => ?_, o4⟩
              · by_cases old : kk ∈ L.map Prod.snd
                · rw [c1 old] at hq
                  exact (at4 q hq).wr hm
                · rcases List.mem_cons.mp ((c2 old).mem_iff.mp hq) with y | y
                  · rw [y]; exact atk.wr hm
                  · exact (at4 q y).wr hm
              · rw [ec] at ez
                cases ez
                rw [f3, List.mem_append, ← sm z, show (z ∈ List.map Prod.snd [(a, kk)] ↔ z = kk) from List.mem_singleton]
                by_cases old : kk ∈ L.map Prod.snd
                · rw [c1 old]
                  exact ⟨.inl, fun y => y.elim id fun y => y ▸ old⟩
                · rw [((c2 old).map Prod.snd).mem_iff, List.map_cons, List.mem_cons]
                  exact Or.comm
          · rw [if_neg hl] at o4
            cases o4
theorem c_lenSetC (hc : X.calm = true) (hu : X.A.units + 64 < cLine) (hN : X.N.Nodup) (hgl : Gl X "len") (hml : X.mg "len" = none) (hi : PI X tg iter (TIc X.K S W it)) (ok : BlkOk X.N X.env.scope scope own) (hx : ∀ i ∈ ix, i ∈ own.map (·.2))
    (hg : ∀ (s : Shared) (H : Hp) (C : Addr) (cl : List (Str × Addr)) (fp : List Addr), PG (X.blk s H scope (compEnvC scope cl C X.env) fp) tg (GTc X.K S.Tb asg ix))
    (ht : ∀ (s : Shared) (H : Hp) (C : Addr) (cl : List (Str × Addr)) (fp : List Addr), PTs (X.blk s H scope (compEnvC scope cl C X.env) fp) ifs (TB X.K S WF t))
    (he : ∀ (s : Shared) (H : Hp) (C : Addr) (cl : List (Str × Addr)) (fp : List Addr), PE (X.blk s H scope (compEnvC scope cl C X.env) fp) elt (T X.K S WF f)) (hs : ∀ x, foldedSetIterable iter X.env x = pure x := by intro _; rfl) (hS : S.AnyN := by tbn_conj) (hy : ∀ i ∈ S.fix, i ∉ own.map (·.2) := by kpt_turns)
    (hs2 : starEach [.SetComp elt [⟨tg, iter, ifs, 0⟩] scope q] X.env = (false, eval (.SetComp elt [⟨tg, iter, ifs, 0⟩] scope q) X.env) :: starEach [] X.env := by rfl) (hpl2 : (backTo pos (starEach [] X.env)).any (·.1) = false := by rfl) :
    PE X (.Call (.Name "len" p) [.SetComp elt [⟨tg, iter, ifs, 0⟩] scope q] [] pos) (T X.K S W (fLenSetC (fComp it (own.map (·.2)) asg t f))) :=
  (pe_callB cr_lenKs hgl hml PySem.boot_len (pa_cons (pe_sk hc hu hN hi ok hg ht he hs) pa_nil hs2) (by decide) (by decide) hs2 hpl2).imp fun σ H Q h => set_read hS hx hy h
end
end SD

set_option Elab.async false
set_option linter.all false
set_option maxRecDepth 100000
set_option maxHeartbeats 4000000
namespace SD
open PySem PySem.Spec PyProof.Rows L2
/-! ### the pieces put together -/
def fscB (N ps : List Str) (sc : Scope) : Bool := decide (sc.kind = .function) && !sc.isCoroutine && !sc.isGenerator && decide N.Nodup && decide (N.take ps.length = ps) &&
  (ps.all fun x => decide (sc.names.lookup x = some .local) || decide (sc.names.lookup x = some .cell)) && sc.names.all fun y => !decide (y.2 = .free)
theorem fsc_of {N ps : List Str} {sc : Scope} (h : fscB N ps sc = true) : FnScope N ps sc := by
  unfold fscB at h
  simp only [Bool.and_eq_true, Bool.or_eq_true, Bool.not_eq_true', decide_eq_true_eq, decide_eq_false_iff_not, List.all_eq_true] at h
  obtain ⟨⟨⟨⟨⟨⟨h1, h2⟩, h3⟩, h4⟩, h5⟩, h6⟩, h7⟩ := h
  exact ⟨h1, h2, h3, h4, h5, h6, h7⟩
section
variable {P : Program} {w : World} {K : PySem.W.Frag} {mg : Str → Option Value} {base : Heap} {x : Str} {params : Arguments} {body : List Stmt} {scope : Scope} {fd : FuncData} {f : Addr} {N ps : List Str} {k n : Nat} {Tb : List (Addr × Str)}
/-- the recursion's ground: it promises nothing -/
theorem d_none (F : FunD K x x params body scope [] [] f fd) (hm : mg x = some (.ref f)) (hn : ps.length = n)
    (hbd : ∀ (kV doc pm : Value) (an : Option Addr) (cdv ct : Value) (us : List Value), us.length = ps.length → bindArgs (PySem.W.fnOf x x params body scope .none kV doc pm an cdv ct) ⟨us, []⟩ = pure (ps.zip us)) :
    DefOk P w K mg base Tb 0 x n (fun _ _ => .stuck) := by
  have kp := F.kp
  have hB : Binds K fd ps [] := F.bindsN hbd
  obtain ⟨oc, od, dV, kV, doc, pm, an, cdv, ct, osl, rfl, _⟩ := F.ex
  refine ⟨f, PySem.W.fnOf x x params body scope dV kV doc pm an cdv ct, ps, ⟨fun vs H Q E h => ?_, fun A outer s H args us vs Q E hr e0 hb r h => ?_⟩, hm, kp, hB⟩
  · obtain ⟨ds, μ, ν, M, h1, h2, _⟩ := h
    rw [← h2.length, h1, hn]
  · obtain ⟨ds, μ, ν, M, h1, h2, s0, o⟩ := h
    exact o.elim
theorem t_ok {a : Str} {gt : (Mem → Res D) → Env → Mem → SRes} (F : FunD K x x params body scope [] [] f fd) (hm : mg x = some (.ref f)) (S : FnScope N [a] scope) (hn : N.length = n) (h0 : N[0]? = some a) (hv : Vis scope a) (hd : (a == ("__debug__" : Str)) = false) (hcd : (a == ("__classdict__" : Str)) = false)
    (hbd : ∀ (kV doc pm : Value) (an : Option Addr) (cdv ct : Value) (us : List Value), us.length = [a].length → bindArgs (PySem.W.fnOf x x params body scope .none kV doc pm an cdv ct) ⟨us, []⟩ = pure ([a].zip us))
    (hG : ∀ (X : Cx), X.K = K → X.mg = mg → ∀ cdv : Value, Gives X Tb N x scope f cdv body a gt) : ToldOk P w K mg base Tb x n gt := by
  have kp := F.kp
  have hB : Binds K fd [a] [] := F.bindsN hbd
  obtain ⟨oc, od, dV, kV, doc, pm, an, cdv, ct, osl, rfl, lk, hcd', _⟩ := F.ex
  exact ⟨f, params, body, scope, dV, kV, doc, pm, cdv, ct, oc, an, od, osl, N, a, hn, hm, kp, lk, hcd', hB, S, h0, hv, hd, hcd, fun X _ _ hK hM _ => hG X hK hM cdv⟩
theorem tabs_new {H : Hp} (h : ∀ p ∈ Tb, H p.1 = some (.tbl #[])) : LamX.Tabs Tb H := fun p hp => LamX.TabS.nil (h p hp)
theorem sr_new {H : Hp} (h : ∀ p ∈ Tb, H p.1 = some (.tbl #[])) : SR K Tb H [] [] [] where
  len := rfl
  nd := .nil
  at_ := fun n a o h1 _ => by cases h1
  res := fun a z => by cases z
  tab := tabs_new h
/-- the law's call: the script stands at a -/
theorem sp_law {m : List D → Mem → Res D} {H : Hp} {a : Addr} {ns : List Int} (hT : ∀ p ∈ Tb, H p.1 = some (.tbl #[])) (hS : SqL K H a (ns.map V.int)) (hm : ∃ M, m [.scr (ns.map D.int)] [] = .ok (.bl true) M) :
    SpOf K Tb 1 m [.ref a] H (fun v _ => v = .bl true) (fun _ _ _ => False) := by
  obtain ⟨M, hm⟩ := hm
  refine ⟨[.scr (ns.map D.int)], [], [], [], rfl, .cons (.scr ?_ (ints_R ns)) .nil, sr_new hT, ?_⟩
  · rcases hS with h | h
    · exact .inl ⟨h, List.not_mem_nil, List.not_mem_nil⟩
    · exact .inr h
  · rw [hm]
    intro v H' μ' _ r _
    cases r
    rfl
end
end SD
namespace SD
open PySem PySem.Spec PyProof.Rows L2
theorem code_of {K : PySem.W.Frag} {x qual : Str} {params : Arguments} {body : List Stmt} {scope : Scope} {fd : FuncData} {p : Str × Option Str} (F : FunD K x qual params body scope [] [] (He.fAd K p) fd) : fd.code = .ref (He.cT K p).1 := by
  obtain ⟨oc, od, dV, kV, doc, pm, an, cdv, ct, osl, rfl, lk, hcd, _⟩ := F.ex
  obtain ⟨c, rfl⟩ := He.codeIn_ref hcd
  show Value.ref c = Value.ref (He.codeOf K p)
  rw [He.codeOf_eq lk rfl]
theorem lookup_all {α : Type} {Q : Str → Str → α → Prop} {x c : Str} {b : α} : ∀ {l : List ((Str × Str) × α)}, (∀ p ∈ l, Q p.1.1 p.1.2 p.2) → l.lookup (x, c) = some b → Q x c b
  | [], _, e => by cases e
  | ((y, d), v) :: r, h, e => by
    rw [List.lookup_cons] at e
    cases q : ((x, c) == (y, d)) with
    | true =>
      rw [q] at e
      cases e
      have z := eq_of_beq q
      cases z
      exact h _ List.mem_cons_self
    | false =>
      rw [q] at e
      exact lookup_all (fun p hp => h p (List.mem_cons_of_mem _ hp)) e
section
variable {P : Program} {w : World} {K : PySem.W.Frag} {mg : Str → Option Value} {base : Heap} {params : Arguments} {scope : Scope} {fd : FuncData} {x qual f1 f2 v1 v2 v0 : Str} {N : List Str} {q1 q2 p1 p2 p3 p4 q3 q4 : Pos}
/-- an __init__ that keeps its two arguments -/
theorem ini2_ok (I : InitC K x) (hm : mg x = some (.ref (He.ga K x))) (a1 : PySem.W.findIn K (.ref (He.ga K x)) f1 = some none) (a2 : PySem.W.findIn K (.ref (He.ga K x)) f2 = some none)
    (F : FunD K "__init__" qual params [.Assign [.Attribute (.Name v0 p1) f1 p2] (.Name v1 q1) p3, .Assign [.Attribute (.Name v0 p4) f2 q2] (.Name v2 q3) q4] scope [] [] (He.ma K (He.ga K x) "__init__") fd) (S : FnScope N [v0, v1, v2] scope) (hN : N = [v0, v1, v2])
    (hv0 : Vis scope v0) (hv1 : Vis scope v1) (hv2 : Vis scope v2) (hd0 : (v0 == ("__debug__" : Str)) = false ∧ (v0 == ("__classdict__" : Str)) = false) (hd1 : (v1 == ("__debug__" : Str)) = false ∧ (v1 == ("__classdict__" : Str)) = false) (hd2 : (v2 == ("__debug__" : Str)) = false ∧ (v2 == ("__classdict__" : Str)) = false)
    (hbd : ∀ (kV doc pm : Value) (an : Option Addr) (cdv ct : Value) (us : List Value), us.length = 3 → bindArgs (PySem.W.fnOf "__init__" qual params [.Assign [.Attribute (.Name v0 p1) f1 p2] (.Name v1 q1) p3, .Assign [.Attribute (.Name v0 p4) f2 q2] (.Name v2 q3) q4] scope .none kV doc pm an cdv ct) ⟨us, []⟩ = pure ([v0, v1, v2].zip us)) :
    IniOk P w K mg base 1 x [f1, f2] := by
  subst hN
  refine ⟨I, hm, fd, [v0, v1, v2], F.ok S (fun vs H Q E h => (ini_len h).trans rfl) (fun cdv A outer s H vs Q E hr h => ⟨_, pss_cons (ps_ost (pe_var (i := 0) rfl hv0 hd0.1 hd0.2) (pe_var (i := 1) rfl hv1 hd1.1 hd1.2)) (pss_one (ps_ost (pe_var (i := 0) rfl hv0 hd0.1 hd0.2) (pe_var (i := 2) rfl hv2 hd2.1 hd2.2))), ini2_read (N := [v0, v1, v2]) rfl I.o a1 a2 h⟩), F.bindsN hbd⟩
end
end SD

set_option Elab.async false
set_option linter.all false
set_option maxRecDepth 100000
set_option maxHeartbeats 4000000
namespace SD
open PySem PySem.Spec PyProof.Rows L2
/-! ### what a law never comes to is left unread -/
section
variable {X : Cx} {S : Side} {W : WX} {e a b : Expr} {ss : List Stmt} {f fa fb : Env → Mem → Res D}
def fStuck {α : Type} : Env → Mem → Res α := fun _ _ => .stuck
def fStuckS : Env → Mem → SRes := fun _ _ => .stuck
theorem c_stuck : PE X e (T X.K S W fStuck) := ⟨fun pins s σ H Q I h => by
  obtain ⟨ρ, μ, ν, M, j, e, s, o⟩ := h
  exact o.elim⟩
theorem cs_stuck : PSs X ss (TSc X.K S W fStuckS) := ⟨fun pins s σ H Q I h => by
  obtain ⟨ρ, μ, ν, M, j, e, s, o⟩ := h
  exact o.elim⟩
/-! ### is True, is False -/
def gIsB : D → D → Mem → Res D := fun d e M => match d, e with
  | .bl a, .bl b => .ok (.bl (decide (a = b))) M
  | _, _ => .stuck
def gIsNotB : D → D → Mem → Res D := fun d e M => match d, e with
  | .bl a, .bl b => .ok (.bl (!decide (a = b))) M
  | _, _ => .stuck
theorem c_isB_op : OpR X (compareOp .Is) (rC2 X.K S.Tb gIsB) := OpR.imp op_isBl fun x y H Q h => by
  obtain ⟨W, σ, d, e, μ, ν, M, rd, re, s, o⟩ := h
  unfold gIsB at o
  cases rd <;> first | exact o.elim | (cases re <;> first | exact o.elim | exact ⟨_, _, rfl, rfl, Ok.flat o (.bl _) s⟩)
theorem c_isnotB_op : OpR X (compareOp .IsNot) (rC2 X.K S.Tb gIsNotB) := OpR.imp op_notBl fun x y H Q h => by
  obtain ⟨W, σ, d, e, μ, ν, M, rd, re, s, o⟩ := h
  unfold gIsNotB at o
  cases rd <;> first | exact o.elim | (cases re <;> first | exact o.elim | exact ⟨_, _, rfl, rfl, Ok.flat o (.bl _) s⟩)
/-! ### << -/
def gShl : D → D → Mem → Res D := fun d e M => match d, e with
  | .int i, .int j => if 0 ≤ j ∧ j ≤ 1000000 ∧ i.natAbs < 18446744073709551616 then .ok (.int (i * 2 ^ j.toNat)) M else .stuck
  | _, _ => .stuck
theorem c_shl_op : OpR X (binaryOp .LShift) (rC2 X.K S.Tb gShl) := int2 op_shl (fun d e M h => by
  unfold gShl at h
  split at h
  · exact ⟨_, _, rfl, rfl⟩
  · exact absurd rfl h) fun K Tb W σ H μ ν M i j Q o s => by
    have o' : Ok K Tb W σ ν (rD K) H μ Q (if 0 ≤ j ∧ j ≤ 1000000 ∧ i.natAbs < 18446744073709551616 then .ok (.int (i * 2 ^ j.toNat)) M else .stuck) := o
    by_cases h : 0 ≤ j ∧ j ≤ 1000000 ∧ i.natAbs < 18446744073709551616
    · rw [if_pos h] at o'
      exact ⟨i, j, rfl, rfl, ⟨h.1, h.2.1, h.2.2⟩, o'.flat (.int _) s⟩
    · rw [if_neg h] at o'
      exact o'.elim
/-! ### str(n), str(None), x.lower() -/
theorem call_str_none : CallR X (.type "str") (fun xs H Q => xs = [.non] ∧ Q (.str "None") H) := by
  intro pins s σ H xs us Q I r h
  obtain ⟨rfl, q⟩ := h
  obtain ⟨u, rfl, rfl⟩ := vals1 r
  exact PySem.P.str_of_none ⟨.str _, H, I.tok _, ⟨_, rfl⟩, q⟩
def gStr : List D → Mem → Res D := fun ds M => match ds with
  | [.int i] => if i.natAbs.log2 < 1920 then .ok (.str (toString i)) M else .stuck
  | [.non] => .ok (.str "None") M
  | _ => .stuck
theorem cc_str : CallR X (.type "str") (rCC X.K S.Tb gStr) := CallR.imp (CallR.or call_str_int call_str_none) fun vs H Q h => by
  obtain ⟨W, σ, ds, μ, ν, M, rs, s, o⟩ := h
  unfold gStr at o
  split at o
  · obtain ⟨v, rfl, rd⟩ := one_R rs
    cases rd
    rename_i i
    by_cases hl : i.natAbs.log2 < 1920
    · rw [if_pos hl] at o
      exact .inl ⟨_, rfl, hl, Ok.flat o (.str _) s⟩
    · rw [if_neg hl] at o
      exact o.elim
  · obtain ⟨v, rfl, rd⟩ := one_R rs
    cases rd
    exact .inr ⟨rfl, Ok.flat o (.str _) s⟩
  · exact o.elim
def gLow : D → Mem → Res D := fun d M => match d with
  | .str x => if x.length ≤ 5592405 then .ok (.str (Txt.lower x)) M else .stuck
  | _ => .stuck
theorem c_lower {apos pos : Pos} (ha : PE X a (T X.K S W fa)) (hbase : attributeBase a "lower" X.env (eval a X.env) = eval a X.env := by rfl) (hline : (apos.endLine == pos.line) = true := by rfl) :
    PE X (.Call (.Attribute a "lower" apos) [] [] pos) (T X.K S W (fUn gLow fa)) :=
  (pe_lower ha hbase hline).imp fun σ H Q h => Tg.bind (k := fun _ => gLow) h fun ρ μ ν M d x H1 j e s rd o => by
    cases rd with
    | str z =>
      have o : Ok X.K S.Tb W σ ν (rD X.K) H1 μ Q (if z.length ≤ 5592405 then .ok (.str (Txt.lower z)) M else .stuck) := o
      by_cases hl : z.length ≤ 5592405
      · rw [if_pos hl] at o
        exact ⟨⟨z, rfl⟩, z, rfl, rfl, hl, Ok.flat o (.str _) s⟩
      · rw [if_neg hl] at o
        exact o.elim
    | _ => exact o.elim
/-! ### xs + ys, a new list -/
def gAddN : D → D → Mem → Res (List D) := fun d e M => match lstOf M d, lstOf M e with
  | some xs, some ys => if xs.length + ys.length ≤ line then .ok (xs ++ ys) M else .stuck
  | _, _ => .stuck
def fAddN (fa fb : Env → Mem → Res D) : Env → Mem → Res (List D) := fun ρ M => (fa ρ M).bind fun d M1 => (fb ρ M1).bind fun e M2 => gAddN d e M2
theorem c_addN {pos : Pos} (ha : PE X a (T X.K S W fa)) (hb : PE X b (T X.K S W fb)) : PE X (.BinOp a .Add b pos) (TN X.K S W (fAddN fa fb)) :=
  (pe_op op_cat ha hb).imp fun σ H Q h => TN.bind (k := fun ρ (d : D) M1 => (fb ρ M1).bind fun e M2 => gAddN d e M2) h fun ρ μ ν M d x H1 j e s rd o =>
    ⟨ρ, μ, ν, M, j, e, s, OkN.bind o fun d2 M2 y H2 μ2 x2 re s2 o2 => by
      have rd := rd.ext x2
      unfold gAddN at o2
      cases h1 : lstOf M2 d with
      | none => simp only [h1] at o2; exact o2.elim
      | some xs =>
        cases h2 : lstOf M2 d2 with
        | none => simp only [h1, h2] at o2; exact o2.elim
        | some ys =>
          simp only [h1, h2] at o2
          by_cases hl : xs.length + ys.length ≤ line
          · rw [if_pos hl] at o2
            obtain ⟨a, vs, rfl, h3, h4⟩ := lstOf_at rd s2 h1
            obtain ⟨b, ws, rfl, h5, h6⟩ := lstOf_at re s2 h2
            exact ⟨a, b, vs, ws, rfl, rfl, h3, h5, line_le (by rw [← h4.length, ← h6.length]; exact hl), fun p hp => OkN.new o2 (h4.append h6) s2 hp⟩
          · rw [if_neg hl] at o2
            exact o2.elim⟩
end
/-! ### the name of a def as a value; its call -/
section
variable {X : Cx} {S : Side} {W : WX} {e : Expr} {es : List Expr} {fx : Env → Mem → Res D} {fs : Env → Mem → Res (List D)} {j : Nat} {x : Str} {p pos : Pos}
theorem c_fnv (hg : Gl X x) (hm : X.mg x = some (.ref (He.ga X.K x))) (hd : (x == ("__debug__" : Str)) = false := by decide) : PE X (.Name x pos) (T X.K S W (fC (.fn x))) := ⟨fun pins s σ H Q I h => by
  obtain ⟨ρ, μ, ν, M, j, e, sr, o⟩ := h
  exact (pe_glob (v := .ref (He.ga X.K x)) hg hm rfl hd).run pins s σ H Q I (o _ H μ (Ext.refl _ _) (.fn x) sr)⟩
abbrev FTab := List (Str × Nat × (List D → Mem → Res D))
def lkF : FTab → Str → Option (Nat × (List D → Mem → Res D))
  | [], _ => none
  | (x, p) :: r, y => if x = y then some p else lkF r y
def FTabOk (P : Program) (w : World) (K : PySem.W.Frag) (mg : Str → Option Value) (base : Heap) (Tb : List (Addr × Str)) (j : Nat) (l : FTab) : Prop :=
  ∀ y n m, lkF l y = some (n, m) → (∃ k, k ≤ j ∧ DefOk P w K mg base Tb k y n m) ∧ mg y = some (.ref (He.ga K y))
theorem ft_nil {P : Program} {w : World} {K : PySem.W.Frag} {mg : Str → Option Value} {base : Heap} {Tb : List (Addr × Str)} : FTabOk P w K mg base Tb j [] := fun y n m h => by cases h
theorem ft_cons {P : Program} {w : World} {K : PySem.W.Frag} {mg : Str → Option Value} {base : Heap} {Tb : List (Addr × Str)} {k n : Nat} {m : List D → Mem → Res D} {l : FTab} (F : DefOk P w K mg base Tb k x n m) (hm : mg x = some (.ref (He.ga K x))) (hk : k ≤ j) (r : FTabOk P w K mg base Tb j l) :
    FTabOk P w K mg base Tb j ((x, n, m) :: l) := fun y n' m' h => by
  unfold lkF at h
  by_cases z : x = y
  · rw [if_pos z] at h
    cases h
    subst z
    exact ⟨⟨k, hk, F⟩, hm⟩
  · rw [if_neg z] at h
    exact r y n' m' h
def fCallV (tab : FTab) (fx : Env → Mem → Res D) (fs : Env → Mem → Res (List D)) : Env → Mem → Res D := fun ρ M => (fx ρ M).bind fun d M1 => match d with
  | .fn y => match lkF tab y with
    | some (n, m) => (fs ρ M1).bind fun ds M2 => if ds.length = n then m ds M2 else .stuck
    | none => .stuck
  | _ => .stuck
theorem c_callV {tab : FTab} (F : FTabOk X.prog X.w X.K X.mg X.base S.Tb j tab) (hr : Room j X.A) (tk : Takes X W) (hx : PE X (.Name x p) (T X.K S W fx))
    (ha : PA X (e :: es) (TL X.K S W fs)) (he : starEach (e :: es) X.env = (false, eval e X.env) :: starEach es X.env := by rfl) (hpl : (backTo pos (starEach es X.env)).any (·.1) = false := by rfl) :
    PE X (.Call (.Name x p) (e :: es) [] pos) (T X.K S W (fCallV tab fx fs)) := by
  refine ⟨fun pins s σ H Q I h => ?_⟩
  have h' : T X.K S W fx σ H (fun v H1 => ∃ y n m, lkF tab y = some (n, m) ∧ v = V.ref (He.ga X.K y) ∧ TL X.K S W fs σ H1 fun vs H2 => SpOf X.K S.Tb n m vs H2 Q (WE W σ)) :=
    Tg.bind (k := fun ρ (d : D) M1 => match d with
      | .fn y => match lkF tab y with
        | some (n, m) => (fs ρ M1).bind fun ds M2 => if ds.length = n then m ds M2 else .stuck
        | none => .stuck
      | _ => .stuck) h fun ρ μ ν M d v H1 j1 e1 s1 rd o => by
      cases rd with
      | fn y =>
        simp only at o
        cases q : lkF tab y with
        | none => rw [q] at o; exact o.elim
        | some nm =>
          obtain ⟨n, m⟩ := nm
          rw [q] at o
          refine ⟨y, n, m, q, rfl, ρ, μ, ν, M, j1, e1, s1, Ok.bind o fun ds M2 vs H2 μ2 x2 rs s2 o2 => ?_⟩
          by_cases hl : ds.length = n
          · rw [if_pos hl] at o2
            refine ⟨ds, μ2, ν, M2, hl, rs, s2, ?_⟩
            cases q : m ds M2 with
            | ok d M' => rw [q] at o2; exact o2
            | exn x M' => rw [q] at o2; exact o2
            | stuck => rw [q] at o2; exact o2
          · rw [if_neg hl] at o2
            exact o2.elim
      | _ => exact o.elim
  refine wpAny_Call_Name_kw (thn (hx.run pins s σ H _ I h') fun u s1 ⟨v, H1, I1, r1, y, n, m, hl, hv, q⟩ => ?_)
  subst hv
  obtain rfl : u = Value.ref (He.ga X.K y) := r1
  obtain ⟨⟨k, hk, f, fd, ps, Fo, hm, hkp, hb⟩, hm2⟩ := F y n m hl
  obtain rfl : f = He.ga X.K y := by
    rw [hm] at hm2
    cases hm2
    rfl
  refine PySem.W.callWith_K (h₀ := X.base) I1.ok.mod.kin hkp (thn (ha.run pos pins s1 σ H1 _ I1 q) fun us s2 ⟨vs, H2, I2, r, q2⟩ => ⟨I2.kIn, ?_⟩) he hpl
  exact run_fnS Fo (hr.mono hk) hb (passAt tk σ) I2 r q2
end
/-! ### name = [..], a list that is changed later -/
section
variable {X : Cx} {S : Side} {W : WX} {elt tg iter : Expr} {f : Env → Mem → Res D} {t : Env → Mem → Res Bool} {it : Env → Mem → Res Src} {asg : D → Env → Option Env} {ix : List Nat} {ifs : List Expr} {scope : Scope} {own : List (Str × Nat)} {pos : Pos}
theorem c_setLcN {i : Nat} {y : Str} {py spos : Pos} (hc : X.calm = true) (hN : X.N.Nodup) (hy : X.N[i]? = some y) (hyl : X.env.scope.names.lookup y = some .local)
    (hsw : swapsWith (.ListComp elt [⟨tg, iter, ifs, 0⟩] scope pos) (some (.Name y py)) spos.line X.env = pure true) (hi : PI X tg iter (TIc X.K S W it)) (ok : BlkOk X.N X.env.scope scope own) (hx : ∀ i ∈ ix, i ∈ own.map (·.2))
    (hg : ∀ (s : Shared) (H : Hp) (C : Addr) (cl : List (Str × Addr)) (fp : List Addr), PG (X.blk s H scope (compEnvC scope cl C X.env) fp) tg (GTc X.K S.Tb asg ix))
    (ht : ∀ (s : Shared) (H : Hp) (C : Addr) (cl : List (Str × Addr)) (fp : List Addr), PTs (X.blk s H scope (compEnvC scope cl C X.env) fp) ifs (TB X.K S WF t))
    (he : ∀ (s : Shared) (H : Hp) (C : Addr) (cl : List (Str × Addr)) (fp : List Addr), PE (X.blk s H scope (compEnvC scope cl C X.env) fp) elt (T X.K S WF f)) (hs : ∀ x, foldedSetIterable iter X.env x = pure x := by intro _; rfl) (hS : S.AnyN := by tbn_conj) (hy' : ∀ i ∈ S.fix, i ∉ own.map (·.2) := by kpt_turns) (hi' : i ∉ S.fix := by kpt_turns) :
    PS X (.Assign [.Name y py] (.ListComp elt [⟨tg, iter, ifs, 0⟩] scope pos) spos) (TSc X.K S W (fAsg (fNew (fComp it (own.map (·.2)) asg t f)) (aName i))) :=
  (ps_setLc hc hN hy hyl hsw hi ok hg ht he hs).imp fun E σ H q => by
    obtain ⟨ρ, μ, ν, M, j, e, s, o⟩ := q
    refine comp_read hS hx hy' ⟨ρ, μ, ν, M, j, e, s, ?_⟩
    unfold fAsg fNew at o
    cases r : fComp it (own.map (·.2)) asg t f ρ M with
    | ok ds M1 =>
      rw [r] at o
      intro p vs H' μ' x s' r' h1 h2
      have hn : p ∉ ν := free_res s h2
      refine o (σ.set i (some (.ref p))) H' (μ' ++ [p]) (ext_store x h2) (.set hi') ((e.ext (ext_store x h2)).set (.ref ?_) i) (s'.alloc h1 r' hn)
      rw [← s'.len, List.getElem?_append_right (Nat.le_refl _)]
      simp
    | exn x M1 =>
      rw [r] at o
      intro cls dd H' μ' x' rx s'
      exact o cls dd σ H' μ' x' .refl (e.ext x') rx s'
    | stuck => rw [r] at o; exact o
end
end SD

set_option Elab.async false
set_option linter.all false
set_option maxRecDepth 100000
set_option maxHeartbeats 4000000
namespace SD
open PySem PySem.Spec PyProof.Rows L2
/-! ### len of a set comprehension of ints -/
def tSi (w : World) (wi : TI) (g : TG) (tt : TT) (te : TE) (vs : List Nat) : TE := fun σ H Q => wi σ H fun J H1 => ∀ D, H1 D = none → ∃ W : Nat → Nat → Hp → Prop,
  (∃ m, W 0 m (upd H1 D (SetO w D (fun _ => false) 0))) ∧ ∀ i m H, W i m H → (J.stop i H ∧ Q (.ref D) H) ∨ (J.go i H ∧ ∃ Nx : Hp → Prop, (∀ H', Nx H' → ∃ m', m' < m ∧ W (i + 1) m' H') ∧
    ∀ x H', J.yld i H x H' → g x (wipe σ vs) H' fun σ2 H2 => wipe σ2 vs = wipe σ vs ∧ tt σ2 H2 fun b H3 => if b = true then te σ2 H3 fun y H4 => ∃ (c : Int) (S : Int → Bool) (n : Nat),
      y = .int c ∧ H4 D = some (SetO w D S n) ∧ n + 1 < scanBound ∧ Nx (upd H4 D (SetO w D (fun j => S j || decide (j = c)) (if S c = true then n else n + 1))) else Nx H3)
section
variable {X : Cx}
theorem si_put {pins : List (Addr × Obj)} {σ : L2.St} {H : Hp} {s : Shared} {E : Value → Shared → Prop} {D : Addr} {c : Int} {tk : Tok} {S : Int → Bool} {n : Nat} {Q : Value → Shared → Prop} (I : Inv X pins σ H s) (hD : H D = some (SetO X.w D S n)) (room : n + 1 < scanBound)
    (h : ∀ s', Inv X pins σ (upd H D (SetO X.w D (fun j => S j || decide (j = c)) (if S c = true then n else n + 1))) s' → Q .none s') :
    wpAny (model X.prog X.w) X.A (call (.builtin "set.add") [.ref D, .int c tk]) Q E s := by
  refine setR_add (setO_get I hD) room fun h' sb new => ?_
  have he : ∃ u, h'.get? D = some u := by
    have ⟨o, _, _, _, ho, _⟩ := new
    exact ⟨o, ho⟩
  exact h _ (I.write (e := D) (t' := s.toks + 1) (by rw [hD]; trivial) (.inl rfl) (fun b u hb hu => (sb.2 b hb).trans hu) he (setO_new new))
theorem si_core {pins : List (Addr × Obj)} {s : Shared} {σ : L2.St} {H : Hp} {Q : VK} {elt tg iter : Expr} {ifs : List Expr} {scope : Scope} {own : List (Str × Nat)} {pos pos' : Pos} {wi : TI} {g : TG} {tt : TT} {te : TE} {use : Option (Value → Sem Unit)} {Qf : Value → Shared → Prop}
    (hc : X.calm = true) (hN : X.N.Nodup) (I : Inv X pins σ H s) (hi : PI X tg iter wi) (ok : BlkOk X.N X.env.scope scope own)
    (hg : ∀ (s : Shared) (H : Hp) (C : Addr) (cl : List (Str × Addr)) (fp : List Addr), PG (X.blk s H scope (compEnvC scope cl C X.env) fp) tg g)
    (ht : ∀ (s : Shared) (H : Hp) (C : Addr) (cl : List (Str × Addr)) (fp : List Addr), PTs (X.blk s H scope (compEnvC scope cl C X.env) fp) ifs tt)
    (he : ∀ (s : Shared) (H : Hp) (C : Addr) (cl : List (Str × Addr)) (fp : List Addr), PE (X.blk s H scope (compEnvC scope cl C X.env) fp) elt te)
    (hs : ∀ x, foldedSetIterable iter X.env x = pure x) (h : tSi X.w wi g tt te (own.map (·.2)) σ H Q)
    (fin : ∀ D C s' m H', Inv X pins σ H' s' → Q (.ref D) H' → s'.heap.Ns C m → FpOk X pins H' C → compPost (model X.prog X.w) X.A X.xe use Qf (.ref D) C (.ok .next) s') :
    wpAny (model X.prog X.w) X.A (comprehension (.SetComp elt [⟨tg, iter, ifs, 0⟩] scope pos) scope X.env pos' (newSet (.type "set")) false (eval iter X.env) use) Qf X.xe s := by
  have cells : ∀ y ∈ scope.names, y.2 = .free → ∃ c, X.env.cells.lookup y.1 = some c := fun y hy e => (ok.free y hy e).elim (fun k => I.ok.has _ (.inl k)) fun k => I.ok.has _ (.inr k)
  refine wpAny_comprehension_free (use := use) rfl hs (closure_ok cells) ok.kind (fun y hy e => by rw [ok.uniq y hy, e]) (thn (hi.run pins s σ H _ I h) fun v0 s1 h1 => thn h1 fun v1 s2 h2 => ?_)
  obtain ⟨it, fp, tn, J, H2, rfl, I2, walk, st2, free2, q⟩ := h2
  refine PpSet.newSet_ok (newEnv_comp ?_)
  generalize eD : s2.heap.objs.size = D
  have D0 : H2 D = none := I2.hok.fresh (Nat.le_of_eq eD)
  obtain ⟨W, ⟨m0, w0⟩, turn⟩ := q D D0
  generalize e3 : ({ s2 with heap := s2.heap.push { cls := .type "set", dict := none, data := .set #[] 0 (.fresh 0 0 (!X.w.params.followText "set-order")) } } : Shared) = s3
  have h3 : s3.heap = s2.heap.push { cls := .type "set", dict := none, data := .set #[] 0 (.fresh 0 0 (!X.w.params.followText "set-order")) } := by rw [← e3]
  have I3 : Inv X pins σ (upd H2 D (SetO X.w D (fun _ => false) 0)) s3 := by
    rw [← e3]
    refine I2.laid (t' := s2.toks) (fun b o e => Heap.get?_push_of_some _ e) (Nat.le_of_eq eD) ?_
    rw [← eD]
    exact setO_new (setR_fresh X.w)
  have below : ∀ b ∈ fp, b < s2.heap.objs.size := fun b hb => let ⟨o, e, _⟩ := walk.obj _ _ st2 b hb; Heap.lt_size e
  have free3 : ∀ b ∈ fp, FpOk X pins (upd H2 D (SetO X.w D (fun _ => false) 0)) b ∧ b < s3.heap.objs.size := fun b hb => by
    have lt := below b hb
    refine ⟨⟨?_, (free2 b hb).2⟩, by rw [h3, Heap.size_push]; exact Nat.lt_succ_of_lt lt⟩
    rw [upd_ne (by rw [← eD]; exact Nat.ne_of_lt lt)]
    exact (free2 b hb).1
  have st3 : tn 0 s3.heap := walk.keep _ _ _ st2 fun b _ o e => by rw [h3]; exact Heap.get?_push_of_some _ e
  have I4 := block_start I3 ok hN free3
  have rg := hg s3 (upd H2 D (SetO X.w D (fun _ => false) 0)) s3.heap.objs.size (cellsFrom (s3.heap.objs.size + 1) scope.names (cloFrom X.env.cells scope.names [])) fp
  have rt := ht s3 (upd H2 D (SetO X.w D (fun _ => false) 0)) s3.heap.objs.size (cellsFrom (s3.heap.objs.size + 1) scope.names (cloFrom X.env.cells scope.names [])) fp
  have re := he s3 (upd H2 D (SetO X.w D (fun _ => false) 0)) s3.heap.objs.size (cellsFrom (s3.heap.objs.size + 1) scope.names (cloFrom X.env.cells scope.names [])) fp
  show codeAny _ _ (.compStart (.SetComp elt [⟨tg, iter, ifs, 0⟩] scope pos) 0 (.ref it) (.ref D) (compEnvC scope (cellsFrom (s3.heap.objs.size + 1) scope.names (cloFrom X.env.cells scope.names [])) s3.heap.objs.size X.env)) (compPost (model X.prog X.w) X.A X.xe use Qf (.ref D) s3.heap.objs.size)
    { s3 with heap := pushCells (s3.heap.push { cls := .type "dict", data := .dict #[] }) scope.names }
  have none3 : ∀ b ∈ fp, (upd H2 D (SetO X.w D (fun _ => false) 0)) b = none := fun b hb => (free3 b hb).1.1
  generalize eE : compEnvC scope (cellsFrom (s3.heap.objs.size + 1) scope.names (cloFrom X.env.cells scope.names [])) s3.heap.objs.size X.env = ce at I4 rg rt re ⊢
  have loc : ce.locals = s3.heap.objs.size := by subst eE; rfl
  generalize eH : upd H2 D (SetO X.w D (fun _ => false) 0) = H3 at I3 I4 rg rt re w0 none3 free3
  generalize e4 : ({ s3 with heap := pushCells (s3.heap.push { cls := .type "dict", data := .dict #[] }) scope.names } : Shared) = s4 at I4 ⊢
  have st4 : tn 0 s4.heap := walk.keep _ _ _ st3 fun b _ o e => by rw [← e4]; exact pushCells_keeps _ _ _ _ (Heap.get?_push_of_some _ e)
  have foot : ∀ {σ' : L2.St} {H' : Hp} {s' : Shared}, Inv (X.blk s3 H3 scope ce fp) [] σ' H' s' → (∀ b ∈ fp, H' b = none) → ∀ b ∈ fp, FpOk (X.blk s3 H3 scope ce fp) [] H' b := fun I' no b hb =>
    ⟨no b hb, (I'.ok.exf b hb).1, I'.ok.exfs b hb, .inl hb, fun x c e => (I'.ok.exf b hb).2 x c e, fun r hr => absurd (show r ∈ ([] : List (Addr × Obj)) ++ [] from hr) (by simp)⟩
  have loop : codeAny (model X.prog X.w) X.A (.compLoop (.SetComp elt [⟨tg, iter, ifs, 0⟩] scope pos) 0 (.ref it) (.ref D) ce) (compPost (model X.prog X.w) X.A X.xe use Qf (.ref D) s3.heap.objs.size) s4 := by
    refine PpSet.compLoopS_any (fun n s' => ∃ i H', Inv (X.blk s3 H3 scope ce fp) [] (wipe σ (own.map (·.2))) H' s' ∧ tn i s'.heap ∧ (∀ b ∈ fp, H' b = none) ∧ W i n H') ?_ m0 ⟨0, H3, I4, st4, none3, w0⟩
    rintro n s5 ⟨i, H5, I5, st5, none5, w5⟩
    rcases turn i n H5 w5 with ⟨over, q5⟩ | ⟨more, Nx, hNx, one⟩
    · refine thnF (walk.done (X.blk s3 H3 scope ce fp) rfl rfl rfl hc i [] s5 _ H5 (fun _ _ => False) I5 (foot I5 none5) st5 over) fun r s6 ⟨er, I6⟩ => ?_
      subst er
      have I7 : Inv X pins σ H5 s6 := I3.call' (ch := fp) I6.os I6.base I6.hok I6.bare fun b hb => let z := (free3 b hb).1.2; ⟨z.2.2.1, z.1, z.2.2.2.1, z.2.2.2.2⟩
      have C0 : H5 s3.heap.objs.size = none := by
        have z : H5 ce.locals = none := I6.free
        rwa [loc] at z
      obtain ⟨m, ns, _⟩ := I6.loc
      have ns' : s6.heap.Ns ce.locals m := ns
      rw [loc] at ns'
      exact fin D s3.heap.objs.size s6 m H5 I7 q5 ns' (I3.fpOk (Nat.le_refl _) C0)
    · refine thnF (walk.item (X.blk s3 H3 scope ce fp) rfl rfl rfl hc i [] s5 _ H5 (fun _ _ => False) I5 (foot I5 none5) st5 more) fun r s6 ⟨u, er, h6⟩ => ?_
      subst er
      refine thnF h6 fun _ s7 ⟨x, H7, I7, rel7, y7, st7, none7⟩ => ?_
      refine thnF (rg.run _ s7 _ H7 x u _ (I7.pinned (foot I7 none7) (walk.obj _ _ st7)) rel7 (one x H7 y7)) fun _ s8 ⟨σ8, H8, I8, w8, q8⟩ => ?_
      refine thnF (rt.run _ s8 σ8 H8 _ I8 q8) fun b s9 ⟨H9, I9, q9⟩ => ?_
      have again : ∀ {s' : Shared} {H' : Hp}, Inv (X.blk s3 H3 scope ce fp) ([] ++ pinsAt fp s7.heap) σ8 H' s' → Nx H' → ∃ m, m < n ∧ ∃ i H', Inv (X.blk s3 H3 scope ce fp) [] (wipe σ (own.map (·.2))) H' s' ∧ tn i s'.heap ∧ (∀ b ∈ fp, H' b = none) ∧ W i m H' := fun {s' H'} I' nx => by
        obtain ⟨m', lt, w'⟩ := hNx H' nx
        have pinned : ∀ b ∈ fp, ∀ o, s7.heap.get? b = some o → s'.heap.get? b = some o ∧ H' b = none := fun b hb o e => let z := I'.pin (b, o) (List.mem_append_right _ (List.mem_append_right _ (mem_pinsAt hb e))); ⟨z.1, z.2.1⟩
        have wl : (wipe σ (own.map (·.2))).length = σ8.length := by rw [← w8, wipe_length]
        refine ⟨m', lt, i + 1, H', (I'.unpinned (pins := [])).weak wl (fun j v e => ?_), walk.keep _ _ _ st7 fun b hb o e => (pinned b hb o e).1, fun b hb => ?_, w'⟩
        · rw [← w8] at e
          exact (wipe_some e).1
        · obtain ⟨o, e, _⟩ := walk.obj _ _ st7 b hb
          exact (pinned b hb o e).2
      cases b with
      | false =>
        simp only [if_false, Bool.false_eq_true] at q9 ⊢
        exact again I9 q9
      | true =>
        simp only [if_true] at q9 ⊢
        refine thnF (re.run _ s9 σ8 H9 _ I9 q9) fun z s10 ⟨yv, H10, I10, r10, c, S0, n0, ey, hD, room, nx⟩ => ?_
        subst ey
        obtain ⟨tk, ez⟩ := r10
        subst ez
        exact si_put (X := X.blk s3 H3 scope ce fp) I10 hD room fun s11 I11 => again I11 nx
  exact PpSet.codeAny_compStart_set loop (walk.self X.A 0 _ _ _ st4 loop)
theorem pe_si {elt tg iter : Expr} {ifs : List Expr} {scope : Scope} {own : List (Str × Nat)} {pos : Pos} {wi : TI} {g : TG} {tt : TT} {te : TE} (hc : X.calm = true) (hN : X.N.Nodup) (hi : PI X tg iter wi) (ok : BlkOk X.N X.env.scope scope own)
    (hg : ∀ (s : Shared) (H : Hp) (C : Addr) (cl : List (Str × Addr)) (fp : List Addr), PG (X.blk s H scope (compEnvC scope cl C X.env) fp) tg g)
    (ht : ∀ (s : Shared) (H : Hp) (C : Addr) (cl : List (Str × Addr)) (fp : List Addr), PTs (X.blk s H scope (compEnvC scope cl C X.env) fp) ifs tt)
    (he : ∀ (s : Shared) (H : Hp) (C : Addr) (cl : List (Str × Addr)) (fp : List Addr), PE (X.blk s H scope (compEnvC scope cl C X.env) fp) elt te) (hs : ∀ x, foldedSetIterable iter X.env x = pure x) :
    PE X (.SetComp elt [⟨tg, iter, ifs, 0⟩] scope pos) (tSi X.w wi g tt te (own.map (·.2))) := ⟨fun pins s σ H Q I h => by
  rw [PpSet.eval_SetComp]
  refine si_core hc hN I hi ok hg ht he hs h fun D C s' m H' I' q ns f => ⟨m, ns, fun h2 sb => ?_⟩
  obtain ⟨f0, f1, f2, f3, f4, f5⟩ := f
  exact ⟨.ref D, H', I'.turned (t' := s'.toks) (fun b o hb e => (sb.2 b hb).trans e) f0 f1 f3 f4 f5, rfl, q⟩⟩
end
def rLenSI (w : World) : List V → Hp → VK → Prop := fun vs H Q => ∃ (a : Addr) (S : Int → Bool) (n : Nat), vs = [.ref a] ∧ H a = some (SetO w a S n) ∧ Q (.int (n : Nat)) H
theorem cr_lenSI {X : Cx} : CallR X (.builtin "len") (rLenSI X.w) := by
  intro pins s σ H xs us Q I r h
  obtain ⟨a, S, n, rfl, ha, q⟩ := h
  obtain ⟨u, rfl, e⟩ := vals1 r
  obtain rfl : u = Value.ref a := e
  obtain ⟨o, es, ep, t, ho, hex, hd, _, _, _, hs, hf, hn, _⟩ := setO_get I ha
  exact call_len_set ho hex hd hf (by unfold scanBound at hs; omega) ⟨.int n, H, I.tok _, ⟨_, by rw [hn]⟩, q⟩
def gLenIs : List D → Mem → Res D := fun ds M => match intsOfD ds with
  | some ns => if ns.length ≤ 4000 then .ok (.int ((distI ns).length : Nat)) M else .stuck
  | none => .stuck
def fLenSetI (f : Env → Mem → Res (List D)) : Env → Mem → Res D := fun ρ M => (f ρ M).bind gLenIs
theorem ints_app : ∀ {a b : List D} {ks : List Int}, intsOfD (a ++ b) = some ks → ∃ ka kb, intsOfD a = some ka ∧ intsOfD b = some kb ∧ ks = ka ++ kb
  | [], b, ks, h => ⟨[], ks, rfl, h, rfl⟩
  | .int i :: a, b, ks, h => by
    simp only [List.cons_append, intsOfD] at h
    cases q : intsOfD (a ++ b) with
    | none => rw [q] at h; cases h
    | some kr =>
      rw [q] at h
      cases h
      obtain ⟨ka, kb, h1, h2, rfl⟩ := ints_app q
      exact ⟨i :: ka, kb, by simp only [intsOfD, h1], h2, rfl⟩
  | .non :: _, _, _, h => by cases h
  | .bl _ :: _, _, _, h => by cases h
  | .str _ :: _, _, _, h => by cases h
  | .tup _ :: _, _, _, h => by cases h
  | .lst _ :: _, _, _, h => by cases h
  | .ref _ :: _, _, _, h => by cases h
  | .scr _ :: _, _, _, h => by cases h
  | .fn _ :: _, _, _, h => by cases h
  | .dct _ :: _, _, _, h => by cases h
theorem ints_one {d : D} {ks : List Int} (h : intsOfD [d] = some ks) : ∃ c, d = .int c ∧ ks = [c] := by
  cases d <;> first | (cases h; exact ⟨_, rfl, rfl⟩) | cases h
theorem set_sets {w : World} {a : Addr} {S : Int → Bool} {n : Nat} : OfSets a (fun h => SetR w h a S n) := fun h x => by
  obtain ⟨o, es, ep, t, h1, _, h2, _⟩ := x
  exact ⟨o, es, ep, t, h1, h2⟩
section
variable {X : Cx} {S : Side} {W : WX} {elt tg iter : Expr} {f : Env → Mem → Res D} {t : Env → Mem → Res Bool} {it : Env → Mem → Res Src} {asg : D → Env → Option Env} {ix : List Nat} {ifs : List Expr} {scope : Scope} {own : List (Str × Nat)} {p p2 pos q : Pos}
theorem set_readI (hS : S.AnyN) (hx : ∀ i ∈ ix, i ∈ own.map (·.2)) (hy : ∀ i ∈ S.fix, i ∉ own.map (·.2)) {σ : L2.St} {H : Hp} {Q : VK} (h : T X.K S W (fLenSetI (fComp it (own.map (·.2)) asg t f)) σ H Q) :
    tSi X.w (TIc X.K S W it) (GTc X.K S.Tb asg ix) (TB X.K S WF t) (T X.K S WF f) (own.map (·.2)) σ H fun v H1 => rLenSI X.w [v] H1 Q := by
  have h' : Tg X.K S W (rD X.K) (fun ρ M => (it ρ M).bind fun src M1 => (compGo src (own.map fun (x : Str × Nat) => x.2) asg t f ρ (src.get M1).length 0 [] M1).bind gLenIs) σ H Q := by
    obtain ⟨ρ, μ, ν, M, j, e, s, o⟩ := h
    refine ⟨ρ, μ, ν, M, j, e, s, ?_⟩
    unfold fLenSetI fComp at o
    show Ok X.K S.Tb W σ ν (rD X.K) H μ Q ((it ρ M).bind _)
    cases q : it ρ M with
    | ok src M1 => rw [q] at o; exact o
    | exn x M1 => rw [q] at o; exact o
    | stuck => rw [q] at o; exact o
  refine Tg.bind (rel := rI X.K S.Tb) (k := fun ρ (src : Src) M1 => (compGo src (own.map fun (x : Str × Nat) => x.2) asg t f ρ (src.get M1).length 0 [] M1).bind gLenIs) h' fun ρ μ1 ν M src J H1 j1 e1 s1 rI o => ?_
  intro p hp
  -- what comes of it is known beforehand
  obtain ⟨ds, Mz, ks, out, keys, four, done⟩ : ∃ ds Mz ks, compGo src (own.map fun (x : Str × Nat) => x.2) asg t f ρ (src.get M).length 0 [] M = .ok ds Mz ∧ intsOfD ds = some ks ∧ ks.length ≤ 4000 ∧
      ∀ H' μ', Ext H1 μ1 H' μ' → SR X.K S.Tb H' μ' ν Mz → Q (.int (distI ks).length) H' := by
    cases q : compGo src (own.map fun (x : Str × Nat) => x.2) asg t f ρ (src.get M).length 0 [] M with
    | exn x M2 =>
      exfalso
      have key : ∀ (k i : Nat) (acc : List D) (M : Mem), compGo src (own.map fun (x : Str × Nat) => x.2) asg t f ρ k i acc M ≠ .exn x M2 := by
        intro k
        induction k with
        | zero =>
          intro i acc M z
          unfold compGo at z
          split at z <;> cases z
        | succ k ih =>
          intro i acc M z
          unfold compGo at z
          split at z
          · cases z
          · split at z
            · cases z
            · rename_i ρ' _
              cases q1 : t ρ' M with
              | exn _ _ => rw [q1] at z; cases z
              | stuck => rw [q1] at z; cases z
              | ok b M1 =>
                rw [q1] at z
                simp only [SD.noX, Res.bind] at z
                cases b with
                | false => exact ih _ _ _ (by simpa using z)
                | true =>
                  simp only [if_true] at z
                  cases q2 : f ρ' M1 with
                  | exn _ _ => rw [q2] at z; cases z
                  | stuck => rw [q2] at z; cases z
                  | ok y M3 =>
                    rw [q2] at z
                    simp only at z
                    split at z
                    · exact ih _ _ _ z
                    · cases z
      exact key _ _ _ _ q
    | stuck => rw [q] at o; exact o.elim
    | ok ds Mz =>
      rw [q] at o
      have o : Ok X.K S.Tb W σ ν (rD X.K) H1 μ1 Q (gLenIs ds Mz) := o
      unfold gLenIs at o
      cases q2 : intsOfD ds with
      | none => simp only [q2] at o; exact o.elim
      | some ks =>
        simp only [q2] at o
        by_cases h4 : ks.length ≤ 4000
        · rw [if_pos h4] at o
          exact ⟨ds, Mz, ks, rfl, q2, h4, fun H' μ' x s => o _ H' μ' x (.int _) s⟩
        · rw [if_neg h4] at o
          exact o.elim
  refine ⟨fun i m H => ∃ (μ : List Addr) (M : Mem) (acc : List D) (va : List V) (L : List Int) (Sf : Int → Bool), Ext H1 μ1 H μ ∧ SR X.K S.Tb H μ (p :: ν) M ∧ REnv X.K H μ (p :: ν) ρ σ ∧ ItOk X.K S.Tb J src H μ (p :: ν) ∧ H p = some (SetO X.w p Sf L.length) ∧ Rs X.K H μ (p :: ν) acc va ∧
    (∀ z, Sf z = true ↔ z ∈ L) ∧ L.Nodup ∧ (∀ ka, intsOfD acc = some ka → L.length ≤ ka.length ∧ ∀ z, z ∈ L ↔ z ∈ ka) ∧ compGo src (own.map fun (x : Str × Nat) => x.2) asg t f ρ m i acc M = .ok ds Mz,
    ⟨_, μ1, M, [], [], [], fun _ => false, ext_fresh hp (s1.notin hp), s1.aside hp, e1.aside (aside_fresh hp), rI.aside (aside_fresh hp), upd_same, .nil, fun z => by simp, .nil, fun ka e => by cases e; simp, out⟩, ?_⟩
  rintro i m H' ⟨μ', M', acc, va, L, Sf, x', s', e', r', hD, ra, at_, one, same, o'⟩
  have tn := r'.turn s' i
  -- the keys so far lie among all
  obtain ⟨rest, eds⟩ := compGo_grows _ _ _ _ o'
  obtain ⟨ka, kb, ea, eb, eab⟩ := ints_app (a := acc) (b := rest) (ks := ks) (by rw [← eds]; exact keys)
  obtain ⟨fw, sm⟩ := same ka ea
  cases m with
  | zero =>
    unfold compGo at o'
    by_cases hl : (src.get M').length = i
    · rw [if_pos hl] at o'
      cases o'
      obtain rfl : ks = ka := Option.some.inj (keys.symm.trans ea)
      refine .inl ⟨tn.2 (Nat.le_of_eq hl), p, Sf, L.length, rfl, hD, ?_⟩
      have len : L.length = (distI ks).length := distI_len one sm
      rw [len]
      exact done H' μ' x' s'.release
    · rw [if_neg hl] at o'
      cases o'
  | succ k =>
    unfold compGo at o'
    cases hd : (src.get M')[i]? with
    | none => rw [hd] at o'; cases o'
    | some d =>
      simp only [hd] at o'
      cases ha : asg d (wipeE ρ (own.map fun (x : Str × Nat) => x.2)) with
      | none => simp only [ha] at o'; cases o'
      | some ρ1 =>
        simp only [ha] at o'
        obtain ⟨go, yl⟩ := tn.1 d hd
        refine .inr ⟨go, fun H2 => ∃ (μ : List Addr) (M : Mem) (acc : List D) (va : List V) (L : List Int) (Sf : Int → Bool), Ext H1 μ1 H2 μ ∧ SR X.K S.Tb H2 μ (p :: ν) M ∧ REnv X.K H2 μ (p :: ν) ρ σ ∧ ItOk X.K S.Tb J src H2 μ (p :: ν) ∧ H2 p = some (SetO X.w p Sf L.length) ∧ Rs X.K H2 μ (p :: ν) acc va ∧
          (∀ z, Sf z = true ↔ z ∈ L) ∧ L.Nodup ∧ (∀ ka, intsOfD acc = some ka → L.length ≤ ka.length ∧ ∀ z, z ∈ L ↔ z ∈ ka) ∧ compGo src (own.map fun (x : Str × Nat) => x.2) asg t f ρ k (i + 1) acc M = .ok ds Mz,
          fun H2 z => ⟨k, Nat.lt_succ_self k, z⟩, fun x H2 y => ?_⟩
        obtain ⟨up, rd⟩ := yl x H2 y
        have x2 : Ext H' μ' H2 μ' := ext_up up
        have s2 := s'.up up
        have hD2 : H2 p = some (SetO X.w p Sf L.length) := up _ _ hD
        refine ⟨d, _, μ', p :: ν, M', ρ1, rd, (e'.ext x2).wipe _, s2, ha, fun σ3 e3 c3 => ?_⟩
        have k3 : Kp S.fix σ σ3 := fun i hi => by rw [c3.2 i fun z => hy i hi (hx i z), wipe_out (hy i hi)]
        refine ⟨wipe_chg c3 hx, ρ1, μ', p :: ν, M', S.mv (hS (S.st j1 (x'.trans x2))) k3, e3, s2, ?_⟩
        have known : ∀ {α : Type} {r : Res α} {kk : α → Mem → Res (List D)}, (SD.noX r).bind kk = .ok ds Mz → ∃ a M2, r = .ok a M2 ∧ kk a M2 = .ok ds Mz := by
          intro α r kk z
          cases r with
          | ok a M2 => exact ⟨a, M2, rfl, z⟩
          | exn x M2 => cases z
          | stuck => cases z
        obtain ⟨b, M3, hb, o3⟩ := known o'
        rw [hb]
        intro b' H3 μ3 x3 rb s3
        cases rb
        have x13 : Ext H1 μ1 H3 μ3 := (x'.trans x2).trans x3
        have r3 : ItOk X.K S.Tb J src H3 μ3 (p :: ν) := (r'.ext x2).ext x3
        have hn0 : p ∉ μ' := (s'.res p List.mem_cons_self).2
        obtain ⟨hD3, hn3⟩ := x3.keep p _ hD2 hn0 (fun ps z => by cases z)
        cases b with
        | false =>
          rw [if_neg Bool.false_ne_true]
          rw [if_neg Bool.false_ne_true] at o3
          exact ⟨μ3, M3, acc, va, L, Sf, x13, s3, (e'.ext x2).ext x3, r3, hD3, (ra.ext x2).ext x3, at_, one, same, o3⟩
        | true =>
          rw [if_pos rfl]
          rw [if_pos rfl] at o3
          obtain ⟨y4, M4, hf, o4⟩ := known o3
          refine ⟨ρ1, μ3, p :: ν, M3, S.mv (hS (S.st j1 x13)) k3, e3.ext x3, s3, ?_⟩
          rw [hf]
          intro v4 H4 μ4 x4 ry s4
          obtain ⟨hD4, hn4⟩ := x4.keep p _ hD3 hn3 (fun ps z => by cases z)
          by_cases hl : acc.length < line
          · rw [if_pos hl] at o4
            -- the new one is a tuple of keys
            obtain ⟨rest2, eds2⟩ := compGo_grows _ _ _ _ o4
            obtain ⟨kc, kd, ec, _, ecd⟩ := ints_app (a := acc ++ [y4]) (b := rest2) (ks := ks) (by rw [← eds2]; exact keys)
            obtain ⟨k1, k2, f1, f2, f3⟩ := ints_app ec
            rw [ea] at f1
            cases f1
            obtain ⟨c, g1, g2⟩ := ints_one f2
            subst g1
            subst g2
            have ev : v4 = V.int c := by cases ry; rfl
            subst ev
            have few : L.length ≤ 4000 := by
              have z : ka.length ≤ ks.length := by rw [ecd, f3]; simp
              omega
            refine ⟨c, Sf, L.length, rfl, hD4, by unfold scanBound; omega, ?_⟩
            have ra4 : Rs X.K H4 μ4 (p :: ν) acc va := ((ra.ext x2).ext x3).ext x4
            have hm : p ∈ p :: ν := List.mem_cons_self
            by_cases old : Sf c = true
            · rw [if_pos old]
              have inL := (at_ c).mp old
              refine ⟨μ4, M4, acc ++ [.int c], va ++ [V.int c], L, fun j => Sf j || decide (j = c), ext_wr (x13.trans x4) (.of hp), s4.wrx set_sets hm hD4, (((e'.ext x2).ext x3).ext x4).wr hm hD4, (r3.ext x4).wr hm hD4, upd_same, (ra4.wr hm hD4).append (.cons (.int c) .nil), fun z => ?_, one, fun kz ez => ?_, o4⟩
              · rw [Bool.or_eq_true, at_ z, decide_eq_true_eq]
                exact ⟨fun y => y.elim id fun y => y ▸ inL, .inl⟩
              · rw [ec] at ez
                cases ez
                rw [f3]
                refine ⟨by simp; omega, fun z => ?_⟩
                rw [List.mem_append, ← sm z, List.mem_singleton]
                exact ⟨.inl, fun y => y.elim id fun y => y ▸ inL⟩
            · rw [if_neg old]
              have notL : c ∉ L := fun z => old ((at_ c).mpr z)
              refine ⟨μ4, M4, acc ++ [.int c], va ++ [V.int c], c :: L, fun j => Sf j || decide (j = c), ext_wr (x13.trans x4) (.of hp), s4.wrx set_sets hm hD4, (((e'.ext x2).ext x3).ext x4).wr hm hD4, (r3.ext x4).wr hm hD4, upd_same, (ra4.wr hm hD4).append (.cons (.int c) .nil), fun z => ?_, List.nodup_cons.mpr ⟨notL, one⟩, fun kz ez => ?_, o4⟩
              · rw [Bool.or_eq_true, at_ z, decide_eq_true_eq, List.mem_cons]
                exact Or.comm
              · rw [ec] at ez
                cases ez
                rw [f3]
                refine ⟨by simp; omega, fun z => ?_⟩
                rw [List.mem_append, ← sm z, List.mem_singleton, List.mem_cons]
                exact Or.comm
          · rw [if_neg hl] at o4
            cases o4
theorem c_lenSetI (hc : X.calm = true) (hN : X.N.Nodup) (hgl : Gl X "len") (hml : X.mg "len" = none) (hi : PI X tg iter (TIc X.K S W it)) (ok : BlkOk X.N X.env.scope scope own) (hx : ∀ i ∈ ix, i ∈ own.map (·.2))
    (hg : ∀ (s : Shared) (H : Hp) (C : Addr) (cl : List (Str × Addr)) (fp : List Addr), PG (X.blk s H scope (compEnvC scope cl C X.env) fp) tg (GTc X.K S.Tb asg ix))
    (ht : ∀ (s : Shared) (H : Hp) (C : Addr) (cl : List (Str × Addr)) (fp : List Addr), PTs (X.blk s H scope (compEnvC scope cl C X.env) fp) ifs (TB X.K S WF t))
    (he : ∀ (s : Shared) (H : Hp) (C : Addr) (cl : List (Str × Addr)) (fp : List Addr), PE (X.blk s H scope (compEnvC scope cl C X.env) fp) elt (T X.K S WF f)) (hs : ∀ x, foldedSetIterable iter X.env x = pure x := by intro _; rfl) (hS : S.AnyN := by tbn_conj) (hy : ∀ i ∈ S.fix, i ∉ own.map (·.2) := by kpt_turns)
    (hs2 : starEach [.SetComp elt [⟨tg, iter, ifs, 0⟩] scope q] X.env = (false, eval (.SetComp elt [⟨tg, iter, ifs, 0⟩] scope q) X.env) :: starEach [] X.env := by rfl) (hpl2 : (backTo pos (starEach [] X.env)).any (·.1) = false := by rfl) :
    PE X (.Call (.Name "len" p) [.SetComp elt [⟨tg, iter, ifs, 0⟩] scope q] [] pos) (T X.K S W (fLenSetI (fComp it (own.map (·.2)) asg t f))) :=
  (pe_callB cr_lenSI hgl hml PySem.boot_len (pa_cons (pe_si hc hN hi ok hg ht he hs) pa_nil hs2) (by decide) (by decide) hs2 hpl2).imp fun σ H Q h => set_readI hS hx hy h
end
end SD

set_option Elab.async false
set_option linter.all false
set_option maxRecDepth 100000
set_option maxHeartbeats 4000000
namespace SD
open PySem PySem.Spec PyProof.Rows L2
/-! ### a look at a part of the heap that is given by its addresses -/
section
variable {fa : List He.Fa} {fn : List He.DefD} {ts : List He.Tab} {tf : List He.Defn} {ex : PySem.W.Frag → Bool} {as : List Addr}
def obsY (as : List Addr) (fa : List He.Fa) (fn : List He.DefD) (ts : List He.Tab) (tf : List He.Defn) (ex : PySem.W.Frag → Bool) (g : Addr → Option Obj) : He.AlX :=
  let K := He.frT g as
  (He.obsT fa fn ts K, ex K && He.tabsB g tf K)
theorem tabs_at {g : Addr → Option Obj} {K : PySem.W.Frag} (h : He.tabsB g tf K = true) {p : He.Defn} (hp : p ∈ tf) :
    PySem.W.codeHdIn K (He.cT K p).1 (He.cT K p).2 = true ∧ ∃ o, g (He.cT K p).2 = some o ∧ He.emptyTab o = true := by
  have z := List.all_eq_true.mp h p hp
  rw [Bool.and_eq_true] at z
  obtain ⟨z1, z2⟩ := z
  refine ⟨z1, ?_⟩
  split at z2
  · rename_i o q
    exact ⟨o, q, z2⟩
  · cases z2
theorem says_at {w : World} {h : Heap} (e : obsY as fa fn ts tf ex h.get? = He.valX fn ts w) : He.SaysX fa fn ts tf ex w h (He.frT h.get? as) := by
  have b := Bool.and_eq_true_iff.mp (congrArg Prod.snd e)
  have t : He.SaysT fa fn ts w (He.frT h.get? as) := congrArg Prod.fst e
  constructor
  · exact t
  · exact b.1
  · exact fun p hp => (tabs_at b.2 hp).1
  · intro p hp
    obtain ⟨_, o, q, y⟩ := tabs_at b.2 hp
    exact He.frT_none q y
  · intro p hp
    obtain ⟨_, o, q, y⟩ := tabs_at b.2 hp
    rw [q, He.emptyTab_eq y]
def hookY (as : List Addr) (fa : List He.Fa) (fn : List He.DefD) (ts : List He.Tab) (tf : List He.Defn) (ex : PySem.W.Frag → Bool) : PySem.W.Hook where
  α := He.AlX
  obs s := obsY as fa fn ts tf ex s.heap.get?
  val w := He.valX fn ts w
  says w h := ∃ K : PySem.W.Frag, K.In h ∧ He.SaysX fa fn ts tf ex w h K
  of _ _ e := ⟨_, He.frT_in, says_at e⟩
  keeps _ _ _ c k := by
    obtain ⟨K, i, c⟩ := c
    exact ⟨K, i.keeps k, c.t, c.more, c.hd, c.out, fun p hp => k _ _ (c.empty p hp)⟩
theorem obsY_eq {g : Addr → Option Obj} {s : Shared} (h : ∀ a, g a = s.heap.get? a) : obsY as fa fn ts tf ex g = (hookY as fa fn ts tf ex).obs s := by
  obtain rfl : g = s.heap.get? := funext h
  rfl
end
end SD
namespace SD
/-- the look in three parts -/
theorem look_join {α L A B C D E F G O : Type} {o : Option α} {l : α → L} {S : α → A × B × C × D × E × F × G} {ob : α → O} {vl : L} {V : A × B × C × D × E × F × G} {vo : O}
    (h1 : o.map (fun x => (l x, (S x).2.1, (S x).2.2.2.1)) = some (vl, V.2.1, V.2.2.2.1))
    (h2 : o.map (fun x => ((S x).1, (S x).2.2.1, (S x).2.2.2.2.1, (S x).2.2.2.2.2.1, (S x).2.2.2.2.2.2)) = some (V.1, V.2.2.1, V.2.2.2.2.1, V.2.2.2.2.2.1, V.2.2.2.2.2.2))
    (h3 : o.map ob = some vo) : o.map (fun x => (l x, S x, ob x)) = some (vl, V, vo) := by
  cases o with
  | none => cases h3
  | some x =>
    simp only [Option.map_some, Option.some.injEq, Prod.mk.injEq] at h1 h2 h3 ⊢
    exact ⟨h1.1, Prod.ext h2.1 (Prod.ext h1.2.1 (Prod.ext h2.2.1 (Prod.ext h1.2.2 (Prod.ext h2.2.2.1 (Prod.ext h2.2.2.2.1 h2.2.2.2.2))))), h3⟩
end SD

set_option Elab.async false
set_option linter.all false
set_option maxRecDepth 100000
set_option maxHeartbeats 4000000
namespace SD
open PySem PySem.Spec PyProof.Rows L2
section
variable {X : Cx} {S : Side} {W : WX} {e : Expr} {f : Env → Mem → Res D}
/-! ### any -/
def gAny : List D → Mem → Res D := fun ds M => match ds with
  | [d] => match lstOf M d with
    | some xs => match blsOf xs with
      | some bs => .ok (.bl (bs.any id)) M
      | none => .stuck
    | none => .stuck
  | _ => .stuck
theorem cc_any (hc : X.calm = true) : CallR X (.builtin "any") (rCC X.K S.Tb gAny) := CallR.imp (cr_any hc) fun vs H Q h => by
  obtain ⟨W, σ, ds, μ, ν, M, rs, s, o⟩ := h
  cases rs with
  | nil => exact o.elim
  | cons r t =>
    rename_i d ds v vs
    cases t with
    | cons _ _ => exact o.elim
    | nil =>
      unfold gAny at o
      simp only at o
      cases q : lstOf M d with
      | none => rw [q] at o; exact o.elim
      | some xs =>
        rw [q] at o
        simp only at o
        cases q2 : blsOf xs with
        | none => rw [q2] at o; exact o.elim
        | some bs =>
          rw [q2] at o
          simp only at o
          obtain ⟨a, ws, rfl, h1, h2⟩ := lstOf_at r s q
          have e := blsOf_R h2 q2
          subst e
          exact ⟨a, bs, rfl, .inl (.inl h1), Ok.flat o (.bl _) s⟩
/-! ### x += n -/
def gAddI : D → D → Mem → Res D := fun d e M => match d, e with
  | .int i, .int j => .ok (.int (i + j)) M
  | _, _ => .stuck
theorem c_aug {i : Nat} {x : Str} {p' pos : Pos} (hN : X.N.Nodup) (hi : X.N[i]? = some x) (hl : Loc X.env.scope x) (he : PE X e (T X.K S W f)) (hf : X.fn x = true ∨ X.env.scope.names.lookup x = some .local := by first | exact .inl rfl | exact .inr rfl | assumption) (hx : i ∉ S.fix := by kpt_turns) :
    PS X (.AugAssign (.Name x p') .Add e pos) (TSc X.K S W (fAsg (fBin gAddI (fVar i) f) (aName i))) := (ps_aug hN hi hl he ip_add hf).imp fun E σ H q => by
  obtain ⟨ρ, μ, ν, M, j, e, s, o⟩ := q
  unfold fAsg fBin fVar at o
  cases q : ρ[i]? with
  | none => rw [q] at o; exact o.elim
  | some d =>
    cases d with
    | none => rw [q] at o; exact o.elim
    | some d =>
      rw [q] at o
      simp only [Res.bind] at o
      obtain ⟨v, h1, h2⟩ := e.at_ i d q
      refine ⟨v, h1, ρ, μ, ν, M, j, e, s, ?_⟩
      cases r : f ρ M with
      | ok d2 M1 =>
        rw [r] at o
        intro y H1 μ1 x1 ry s1
        cases d with
        | int a =>
          cases d2 with
          | int b =>
            cases h2
            cases ry
            exact ⟨a, b, rfl, rfl, o (σ.set i (some (.int (a + b)))) H1 μ1 x1 (.set hx) ((e.ext x1).set (.int _) i) s1⟩
          | _ => exact o.elim
        | _ => exact o.elim
      | exn x M1 =>
        rw [r] at o
        intro cls dd H' μ' x' rx s'
        exact o cls dd σ H' μ' x' .refl (e.ext x') rx s'
      | stuck => rw [r] at o; exact o.elim
end
end SD

set_option Elab.async false
set_option linter.all false
set_option maxRecDepth 100000
set_option maxHeartbeats 4000000
namespace SD
open PySem PySem.Spec PyProof.Rows L2
/-! ### sorted(xs), xs a list of tuples of ints in [0, 64), of one length; equals are kept -/
theorem perm_lift {α β : Type} {f : α → β} {xs ys : List β} (h : xs.Perm ys) : ∀ {ks : List α}, xs = ks.map f → ∃ ks' : List α, ks'.Perm ks ∧ ys = ks'.map f := by
  induction h with
  | nil =>
    intro ks e
    cases ks with
    | nil => exact ⟨[], .nil, rfl⟩
    | cons _ _ => cases e
  | cons x h ih =>
    intro ks e
    cases ks with
    | nil => cases e
    | cons k r =>
      cases e
      obtain ⟨r', h1, h2⟩ := ih rfl
      exact ⟨k :: r', h1.cons k, by rw [h2]; rfl⟩
  | swap x y l =>
    intro ks e
    match ks, e with
    | k1 :: k2 :: r, e =>
      cases e
      exact ⟨k2 :: k1 :: r, .swap k1 k2 r, rfl⟩
  | trans a b iha ihb =>
    intro ks e
    obtain ⟨k1, h1, h2⟩ := iha e
    obtain ⟨k2, h3, h4⟩ := ihb h2
    exact ⟨k2, h3.trans h1, h4⟩
def insE (x : List Int) : List (List Int) → List (List Int)
  | [] => [x]
  | y :: r => if TS.code 64 x ≤ TS.code 64 y then x :: y :: r else y :: insE x r
def srtE : List (List Int) → List (List Int)
  | [] => []
  | x :: r => insE x (srtE r)
theorem insE_perm (x : List Int) : ∀ l, (insE x l).Perm (x :: l)
  | [] => .refl _
  | y :: r => by
    unfold insE
    split
    · exact .refl _
    · exact ((insE_perm x r).cons y).trans (.swap x y r)
theorem srtE_perm : ∀ l, (srtE l).Perm l
  | [] => .refl _
  | x :: r => (insE_perm x _).trans ((srtE_perm r).cons x)
theorem insE_srt {x : List Int} : ∀ {l : List (List Int)}, l.Pairwise (fun a b => TS.code 64 a ≤ TS.code 64 b) → (insE x l).Pairwise (fun a b => TS.code 64 a ≤ TS.code 64 b)
  | [], _ => by simp [insE]
  | y :: r, h => by
    have h1 := List.pairwise_cons.mp h
    unfold insE
    split
    · rename_i c
      refine List.pairwise_cons.mpr ⟨fun z hz => ?_, h⟩
      rcases List.mem_cons.mp hz with e | e
      · rw [e]; exact c
      · exact Int.le_trans c (h1.1 z e)
    · rename_i c
      refine List.pairwise_cons.mpr ⟨fun z hz => ?_, insE_srt h1.2⟩
      rcases List.mem_cons.mp ((insE_perm x r).mem_iff.mp hz) with e | e
      · rw [e]; omega
      · exact h1.1 z e
theorem srtE_srt : ∀ l, (srtE l).Pairwise (fun a b => TS.code 64 a ≤ TS.code 64 b)
  | [] => .nil
  | x :: r => insE_srt (srtE_srt r)
def gSrtT : List D → Mem → Res (List D) := fun ds M => match ds with
  | [d] => match lstOf M d with
    | some xs => match itupsOf xs with
      | some ts => if okT ts = true then .ok ((srtE ts).map fun t => D.tup (t.map D.int)) M else .stuck
      | none => .stuck
    | none => .stuck
  | _ => .stuck
theorem cn_sortT {X : Cx} {S : Side} : CallR X (.builtin "sorted") (rCN X.K S.Tb gSrtT) := fun pins s0 σ0 H0 xs0 us Q0 I r h => by
  obtain ⟨W, σ, ds, μ, ν, M, rs, s, o⟩ := h
  cases rs with
  | nil => exact o.elim
  | cons rd t =>
    rename_i d ds v vs
    cases t with
    | cons _ _ => exact o.elim
    | nil =>
      unfold gSrtT at o
      simp only at o
      cases q : lstOf M d with
      | none => rw [q] at o; exact o.elim
      | some xs =>
        rw [q] at o
        simp only at o
        cases q2 : itupsOf xs with
        | none => rw [q2] at o; exact o.elim
        | some ts =>
          rw [q2] at o
          simp only at o
          by_cases hk : okT ts = true
          · rw [if_pos hk] at o
            obtain ⟨k1, k2, k3⟩ := okT_gd hk
            obtain ⟨l, vs, rfl, h1, h2⟩ := lstOf_at rd s q
            obtain ⟨ks, e1, e2, e3⟩ := itups_R h2 q2
            subst e1
            refine cr_sortT (d := lenT ts) (B := 64) k2 pins s0 σ0 H0 _ us Q0 I r ⟨l, _, rfl, .inl (.inl h1), by rw [List.length_map]; rw [e2, List.length_map] at k1; exact k1, fun x hx => ?_, fun ys p hperm hpw hp => ?_⟩
            · obtain ⟨y, hy, rfl⟩ := List.mem_map.mp hx
              have g := k3 y.2 (by rw [e2]; exact List.mem_map_of_mem hy)
              exact ⟨y.2, ⟨y.1, rfl, (e3 y hy).seq⟩, g.1, g.2⟩
            · obtain ⟨ks', hp1, hp2⟩ := perm_lift hperm.symm (f := fun p : Addr × List Int => V.ref p.1) rfl
              subst hp2
              have at' : ∀ y ∈ ks', AtT X.K H0 μ ν y.1 (y.2.map V.int) := fun y hy => e3 y (hp1.mem_iff.mp hy)
              have pw : (ks'.map (·.2)).Pairwise (fun a b => TS.code 64 a ≤ TS.code 64 b) := by
                refine List.pairwise_map.mpr ?_
                have z := List.pairwise_map.mp hpw
                refine z.imp_of_mem fun {a b} ha hb y => y a.2 b.2 ⟨a.1, rfl, (at' a ha).seq⟩ ⟨b.1, rfl, (at' b hb).seq⟩
              have pm : (ks'.map (·.2)).Perm (srtE ts) := by
                rw [e2]
                exact (hp1.map (·.2)).trans (srtE_perm _).symm
              have eq : ks'.map (·.2) = srtE ts := List.Perm.eq_of_pairwise (le := fun a b => TS.code 64 a ≤ TS.code 64 b) (fun a b ha hb h1 h2 => by
                have ga := k3 a (by
                  rw [e2]
                  exact (hp1.map (·.2)).mem_iff.mp ha)
                have gb := k3 b ((srtE_perm ts).mem_iff.mp hb)
                exact code_inj (ga.1.trans gb.1.symm) ga.2 gb.2 (by omega)) pw (srtE_srt ts) pm
              rw [← eq] at o
              have rr : Rs X.K H0 μ ν ((ks'.map (·.2)).map fun t => D.tup (t.map D.int)) (ks'.map fun q => V.ref q.1) := by
                have key : ∀ M : List (Addr × List Int), (∀ p ∈ M, p ∈ ks') → Rs X.K H0 μ ν ((M.map (·.2)).map fun t => D.tup (t.map D.int)) (M.map fun q => V.ref q.1) := by
                  intro M
                  induction M with
                  | nil => exact fun _ => .nil
                  | cons z r ih => exact fun h => .cons (.tup (at' z (h z List.mem_cons_self)) (ints_R _)) (ih fun p hp => h p (List.mem_cons_of_mem _ hp))
                exact key ks' fun p hp => hp
              exact OkN.new o rr s hp
          · rw [if_neg hk] at o
            exact o.elim
end SD

set_option Elab.async false
set_option linter.all false
set_option maxRecDepth 100000
set_option maxHeartbeats 4000000
namespace SD
open PySem PySem.Spec PyProof.Rows L2
/-! ### dict(list of pairs): tuples of ints, all different, with ints -/
theorem paired_at {α β : Type} {F : α → β → Prop} : ∀ {l : List α} {m : List β} {j : Nat} {x : β}, Paired F l m → m[j]? = some x → ∃ y, l[j]? = some y ∧ F y x
  | _, _, j, _, .nil, h => by simp at h
  | _, _, 0, _, .cons f _, h => by
    simp at h
    subst h
    exact ⟨_, by simp, f⟩
  | _, _, j + 1, _, .cons _ p, h => by
    simp at h
    obtain ⟨y, h1, h2⟩ := paired_at p h
    exact ⟨y, by simpa using h1, h2⟩
theorem paired_len {α β : Type} {F : α → β → Prop} : ∀ {l : List α} {m : List β}, Paired F l m → l.length = m.length
  | _, _, .nil => rfl
  | _, _, .cons _ p => by simp [paired_len p]
section
variable {X : Cx} {pins : List (Addr × Obj)} {σ : L2.St} {H : Hp} {s : Shared}
abbrev TEnt := Addr × DEnt
abbrev KEnt := List Int × Addr × Value
theorem key_I {b : Addr} {k : List Int} (I : Inv X pins σ H s) (h : SqT X.K H b (k.map V.int)) : (kI X.prog X.w).is s.heap k b := by
  obtain ⟨its, r, ⟨ob, g1, g2, n, g3⟩, _⟩ := I.tuple h
  exact ⟨ob, its.toArray, n, g1, g2, g3, by simpa using items_of_vals r⟩
def FEnt (h : Heap) (t : TEnt) (x : KEnt) : Prop := (∃ tk, x = (t.2.1, t.2.2.1, Value.int t.2.2.2 tk)) ∧ PairAt h t.1 (.ref x.2.1) x.2.2
/-- the pairs as the heap has them -/
theorem pairs_I (I : Inv X pins σ H s) : ∀ {T : List TEnt}, (∀ t ∈ T, SqT X.K H t.1 [.ref t.2.2.1, .int t.2.2.2]) → ∃ xs : List KEnt, Paired (FEnt s.heap) T xs ∧ xs.map (·.1) = T.map (·.2.1)
  | [], _ => ⟨[], .nil, rfl⟩
  | t :: T, h => by
    obtain ⟨xs, h1, h2⟩ := pairs_I I (T := T) fun z hz => h z (List.mem_cons_of_mem _ hz)
    obtain ⟨its, r, q, _⟩ := I.tuple (h t List.mem_cons_self)
    cases r with
    | cons r1 r =>
      cases r with
      | cons r2 r =>
        cases r
        rename_i u1 u2
        obtain rfl : u1 = Value.ref t.2.2.1 := r1
        obtain ⟨tk, rfl⟩ := r2
        exact ⟨(t.2.1, t.2.2.1, Value.int t.2.2.2 tk) :: xs, .cons ⟨⟨tk, rfl⟩, .inl q⟩ h1, by simp [h2]⟩
theorem stored_new : ∀ (ps acc : List KEnt), ((acc ++ ps).map (·.1)).Nodup → storedAllH acc ps = acc ++ ps
  | [], acc, _ => by simp [storedAllH]
  | p :: ps, acc, h => by
    have e : atKey acc p.1 = none := by
      unfold atKey
      rw [Option.map_eq_none_iff, List.find?_eq_none]
      intro x hx z
      have z := of_decide_eq_true z
      rw [List.map_append, List.nodup_append] at h
      exact h.2.2 x.1 (List.mem_map_of_mem hx) p.1 (List.mem_map_of_mem List.mem_cons_self) z
    show storedAllH (storedH acc p.1 p.2.1 p.2.2) ps = _
    rw [storedH_new e, stored_new ps _ (by simpa using h)]
    simp
theorem call_dictI (hc : X.calm = true) (hu : X.A.units + 64 < cLine) : CallR X (.type "dict") (fun xs H Q => ∃ (a : Addr) (T : List TEnt), xs = [.ref a] ∧ SqL X.K H a ((T.map (·.1)).map V.ref) ∧ (∀ t ∈ T, SqT X.K H t.1 [.ref t.2.2.1, .int t.2.2.2] ∧ SqT X.K H t.2.2.1 (t.2.1.map V.int)) ∧
    (T.map (·.2.1)).Nodup ∧ ∀ p, H p = none → Q (.ref p) (upd H p (DxO p (T.map (·.2))))) := by
  intro pins s σ H xs us Q I r q
  obtain ⟨a, T, rfl, hq, ht, hn, q⟩ := q
  obtain ⟨u, rfl, rx⟩ := vals1 r
  cases rx
  obtain ⟨its, rv, pl, hz⟩ := I.list hq
  have ei := refs_at rv
  subst ei
  obtain ⟨xs, hp, hk⟩ := pairs_I I (T := T) (fun t h => (ht t h).1)
  have hl := paired_len hp
  have at' : ∀ {j : Nat} {x : KEnt}, xs[j]? = some x → ∃ t, T[j]? = some t ∧ FEnt s.heap t x := fun h => paired_at hp h
  have keyS : ∀ x ∈ xs, ∃ t ∈ T, x.1 = t.2.1 ∧ x.2.1 = t.2.2.1 := fun x hx => by
    obtain ⟨j, hj⟩ := List.mem_iff_getElem?.mp hx
    obtain ⟨t, h1, ⟨tk, rfl⟩, _⟩ := at' hj
    exact ⟨t, List.mem_iff_getElem?.mpr ⟨j, h1⟩, rfl, rfl⟩
  obtain ⟨o, n, ho, hcl, hd, hdat⟩ := pl
  refine call_dict_pairsH (knd := kI X.prog X.w) (ps := xs) (PairArg.list a _ (fun j => ((T[j]?).map (·.1)).getD 0) (xs.map fun x => (Value.ref x.2.1, x.2.2))) (I.ok.hd hc) ?_ ⟨⟨o, n, ho, hcl, hd, hdat⟩, ?_⟩ ⟨by simp, fun i key v h => ?_⟩ (fun h' kp x hx => ?_) ?_ fun h' tk hd' kp => ?_
  · show X.A.units + 1 + 1 < cLine
    omega
  · refine ⟨by simp [hl], fun j k v h => ?_⟩
    rw [List.getElem?_map, Option.map_eq_some_iff] at h
    obtain ⟨x, hx, e⟩ := h
    cases e
    obtain ⟨t, h1, h2⟩ := at' hx
    exact ⟨by simp [h1], by simp only [h1, Option.map_some, Option.getD_some]; exact h2.2⟩
  · have h : (xs.map fun x => (Value.ref x.2.1, x.2.2))[i]? = some (key, v) := h
    rw [List.getElem?_map, Option.map_eq_some_iff] at h
    obtain ⟨x, hx, e⟩ := h
    cases e
    exact ⟨x.1, x.2.1, hx, rfl⟩
  · obtain ⟨t, h1, h2, h3⟩ := keyS x hx
    obtain ⟨ob, its, n, g1, g2, g3, g4⟩ := key_I I (ht t h1).2
    rw [h2, h3]
    exact ⟨ob, its, n, kp _ _ (Nat.ne_of_lt (Heap.lt_size g1)) List.not_mem_nil g1, g2, g3, g4⟩
  · rw [List.length_map, List.length_map] at hz
    rw [List.length_map, ← hl]
    exact hz
  · rw [stored_new xs [] (by rw [List.nil_append, hk]; exact hn), List.nil_append] at hd'
    obtain ⟨o, es, ep, g1, g2, g3, g4, g5, g6⟩ := hd'
    have hm : (s.heap.objs.size == sysModules) = false := beq_eq_false_iff_ne.mpr (Nat.ne_of_gt I.big)
    refine ⟨.ref s.heap.objs.size, upd H s.heap.objs.size (DxO s.heap.objs.size (T.map (·.2))), I.laid (t' := tk) (fun b o e => kp b o List.not_mem_nil e) (Nat.le_refl _) (dx_ok ⟨o, es, ep, g1, g2, g3, fun P w => ?_, by rw [List.map_map]; exact hn, hm⟩), rfl, q _ (I.hok.fresh (Nat.le_refl _))⟩
    rw [g4]
    have key : ∀ {T : List TEnt} {xs : List KEnt}, Paired (FEnt s.heap) T xs → Paired (entI P w) (T.map (·.2)) (xs.map (entryOfKey (kI X.prog X.w))) := fun {T xs} p => by
      induction p with
      | nil => exact .nil
      | cons f _ ih =>
        obtain ⟨⟨tk, rfl⟩, _⟩ := f
        exact .cons ⟨tk, rfl⟩ ih
    exact key hp
/-! ### x in d, d[x] -/
theorem dict_of {a : Addr} {L : List DEnt} (I : Inv X pins σ H s) (h : H a = some (DxO a L)) (hk : ∀ p ∈ L, SqT X.K H p.2.1 (p.1.map V.int)) :
    (a == sysModules) = false ∧ ∃ xs : List KEnt, s.heap.DictOfH (kI X.prog X.w) a xs ∧ Paired (fun (p : DEnt) (x : KEnt) => ∃ tk, x = (p.1, p.2.1, Value.int p.2.2 tk)) L xs := by
  obtain ⟨o, es, ep, g1, g2, g3, g4, g5, g6⟩ := (I.hok a _ h).1
  refine ⟨g6, ?_⟩
  have key : ∀ {L : List DEnt} {l : List DictEntry}, Paired (entI X.prog X.w) L l → ∃ xs : List KEnt, l = xs.map (entryOfKey (kI X.prog X.w)) ∧ Paired (fun (p : DEnt) (x : KEnt) => ∃ tk, x = (p.1, p.2.1, Value.int p.2.2 tk)) L xs := fun {L l} p => by
    induction p with
    | nil => exact ⟨[], rfl, .nil⟩
    | cons f _ ih =>
      obtain ⟨xs, h1, h2⟩ := ih
      obtain ⟨tk, e⟩ := f
      exact ⟨(_, _, Value.int _ tk) :: xs, by rw [e, h1]; rfl, .cons ⟨tk, rfl⟩ h2⟩
  obtain ⟨xs, h1, h2⟩ := key (g4 X.prog X.w)
  have e1 : xs.map (·.1) = L.map (·.1) := by
    have z : ∀ {L : List DEnt} {xs : List KEnt}, Paired (fun (p : DEnt) (x : KEnt) => ∃ tk, x = (p.1, p.2.1, Value.int p.2.2 tk)) L xs → xs.map (·.1) = L.map (·.1) := fun {L xs} p => by
      induction p with
      | nil => rfl
      | cons f _ ih =>
        obtain ⟨tk, rfl⟩ := f
        simp [ih]
    exact z h2
  refine ⟨xs, ⟨o, es, ep, g1, g2, g3, h1, fun x hx => ?_, by rw [e1]; exact g5⟩, h2⟩
  obtain ⟨j, hj⟩ := List.mem_iff_getElem?.mp hx
  obtain ⟨p, hp, tk, rfl⟩ := paired_at h2 hj
  exact key_I I (hk p (List.mem_iff_getElem?.mpr ⟨j, hp⟩))
def lkD (kvs : List (List Int × Int)) (k : List Int) : Option Int := (kvs.find? fun p => decide (p.1 = k)).map (·.2)
theorem lk_at {k : List Int} : ∀ {L : List DEnt} {xs : List KEnt}, Paired (fun (p : DEnt) (x : KEnt) => ∃ tk, x = (p.1, p.2.1, Value.int p.2.2 tk)) L xs →
    match lkD (L.map fun p => (p.1, p.2.2)) k with
    | some v => ∃ b tk, atKey xs k = some (b, Value.int v tk)
    | none => atKey xs k = none
  | _, _, .nil => by simp [lkD, atKey]
  | _, _, .cons f p => by
    have ih := lk_at (k := k) p
    obtain ⟨tk, rfl⟩ := f
    rename_i y L xs
    by_cases e : y.1 = k
    · simp only [lkD, List.map_cons, List.find?_cons, decide_eq_true e, Option.map_some]
      exact ⟨y.2.1, tk, by simp [atKey, List.find?_cons, e]⟩
    · have e1 : lkD ((y :: L).map fun p => (p.1, p.2.2)) k = lkD (L.map fun p => (p.1, p.2.2)) k := by simp [lkD, List.find?_cons, e]
      have e2 : atKey ((y.1, y.2.1, Value.int y.2.2 tk) :: xs) k = atKey xs k := by simp [atKey, List.find?_cons, e]
      rw [e1, e2]
      exact ih
end
end SD

set_option Elab.async false
set_option linter.all false
set_option maxRecDepth 100000
set_option maxHeartbeats 4000000
namespace SD
open PySem PySem.Spec PyProof.Rows L2
def prOf : D → Option (List Int × Int)
  | .tup [.tup ks, .int v] => match intsOfD ks with
    | some k => some (k, v)
    | none => none
  | _ => none
def prsOf : List D → Option (List (List Int × Int))
  | [] => some []
  | d :: r => match prOf d with
    | some p => match prsOf r with
      | some m => some (p :: m)
      | none => none
    | none => none
theorem prs_R {K : PySem.W.Frag} {H : Hp} {μ ν : List Addr} : ∀ {ds : List D} {vs : List V} {kvs : List (List Int × Int)}, Rs K H μ ν ds vs → prsOf ds = some kvs →
    ∃ T : List TEnt, vs = (T.map (·.1)).map V.ref ∧ kvs = T.map (fun t => (t.2.1, t.2.2.2)) ∧ ∀ t ∈ T, SqT K H t.1 [.ref t.2.2.1, .int t.2.2.2] ∧ AtT K H μ ν t.2.2.1 (t.2.1.map V.int)
  | _, _, _, .nil, h => by cases h; exact ⟨[], rfl, rfl, fun t z => absurd z List.not_mem_nil⟩
  | d :: ds, v :: vs, kvs, .cons r t, h => by
    unfold prsOf at h
    cases q : prOf d with
    | none => rw [q] at h; cases h
    | some p =>
      rw [q] at h
      simp only at h
      cases q2 : prsOf ds with
      | none => rw [q2] at h; cases h
      | some m =>
        rw [q2] at h
        cases h
        obtain ⟨T, e1, e2, e3⟩ := prs_R t q2
        unfold prOf at q
        split at q
        · rename_i ks i
          split at q
          · rename_i k q3
            cases q
            cases r with
            | tup h1 h2 =>
              rename_i a ws
              cases h2 with
              | cons r1 h2 =>
                cases h2 with
                | cons r2 h2 =>
                  cases h2
                  cases r2
                  cases r1 with
                  | tup k1 k2 =>
                    rename_i b us
                    have e := intsOfD_R k2 q3
                    subst e
                    refine ⟨(a, k, b, i) :: T, by rw [e1]; rfl, by rw [e2]; rfl, fun z hz => ?_⟩
                    rcases List.mem_cons.mp hz with y | y
                    · rw [y]
                      exact ⟨h1.seq, k1⟩
                    · exact e3 z y
          · cases q
        · cases q
section
variable {X : Cx} {S : Side}
def gDict : List D → Mem → Res D := fun ds M => match ds with
  | [d] => match lstOf M d with
    | some xs => match prsOf xs with
      | some kvs => if (kvs.map (·.1)).Nodup then .ok (.dct kvs) M else .stuck
      | none => .stuck
    | none => .stuck
  | _ => .stuck
theorem cc_dict (hc : X.calm = true) (hu : X.A.units + 64 < cLine) : CallR X (.type "dict") (rCC X.K S.Tb gDict) := CallR.imp (call_dictI hc hu) fun vs H Q h => by
  obtain ⟨W, σ, ds, μ, ν, M, rs, s, o⟩ := h
  cases rs with
  | nil => exact o.elim
  | cons r t =>
    rename_i d ds v vs
    cases t with
    | cons _ _ => exact o.elim
    | nil =>
      unfold gDict at o
      simp only at o
      cases q : lstOf M d with
      | none => rw [q] at o; exact o.elim
      | some xs =>
        rw [q] at o
        simp only at o
        cases q2 : prsOf xs with
        | none => rw [q2] at o; exact o.elim
        | some kvs =>
          rw [q2] at o
          simp only at o
          by_cases hn : (kvs.map (·.1)).Nodup
          · rw [if_pos hn] at o
            obtain ⟨a, ws, rfl, h1, h2⟩ := lstOf_at r s q
            obtain ⟨T, e1, e2, e3⟩ := prs_R h2 q2
            subst e1
            refine ⟨a, T, rfl, .inl (.inl h1), fun t ht => ⟨(e3 t ht).1, (e3 t ht).2.seq⟩, by rw [e2, List.map_map] at hn; exact hn, fun p hp => ?_⟩
            have xx : Ext H μ (upd H p (DxO p (T.map (·.2)))) μ := ext_fresh hp (s.notin hp)
            refine o (.ref p) _ μ xx (.dct ⟨T.map (·.2), upd_same, s.free hp, fun z hz => ?_, ?_⟩) (s.up (up_fresh hp))
            · obtain ⟨t, ht, rfl⟩ := List.mem_map.mp hz
              exact (e3 t ht).2.ext xx
            · rw [e2, List.map_map]
              rfl
          · rw [if_neg hn] at o
            exact o.elim
def keyD : D → Option (List Int)
  | .tup ks => intsOfD ks
  | _ => none
theorem keyD_R {K : PySem.W.Frag} {H : Hp} {μ ν : List Addr} {d : D} {v : V} {k : List Int} (r : R K H μ ν d v) (h : keyD d = some k) : ∃ b, v = .ref b ∧ SqT K H b (k.map V.int) := by
  cases r with
  | tup h1 h2 =>
    have e := intsOfD_R h2 h
    subst e
    exact ⟨_, rfl, h1.seq⟩
  | _ => cases h
def gInD (neg : Bool) : D → D → Mem → Res D := fun d e M => match e with
  | .dct kvs => match keyD d with
    | some k => .ok (.bl (neg != (lkD kvs k).isSome)) M
    | none => .stuck
  | _ => .stuck
def gIxD : D → D → Mem → Res D := fun d e M => match d with
  | .dct kvs => match keyD e with
    | some k => match lkD kvs k with
      | some v => .ok (.int v) M
      | none => .stuck
    | none => .stuck
  | _ => .stuck
theorem some_at {L : List DEnt} {xs : List KEnt} {k : List Int} (p : Paired (fun (p : DEnt) (x : KEnt) => ∃ tk, x = (p.1, p.2.1, Value.int p.2.2 tk)) L xs) : (atKey xs k).isSome = (lkD (L.map fun p => (p.1, p.2.2)) k).isSome := by
  have z := lk_at (k := k) p
  cases q : lkD (L.map fun p => (p.1, p.2.2)) k with
  | none => rw [q] at z; rw [z]; rfl
  | some v =>
    rw [q] at z
    obtain ⟨b, tk, e⟩ := z
    rw [e]
    rfl
theorem c_inD_op (hu : X.A.units + 64 < cLine) : OpR X (compareOp .In) (rC2 X.K S.Tb (gInD false)) := fun pins s σ H x y v u Q I rx ry h => by
  obtain ⟨W, σ', d, e, μ, ν, M, rd, re, sr, o⟩ := h
  cases re with
  | dct hd =>
    obtain ⟨L, h1, h2, h3, rfl⟩ := hd
    have o : Ok X.K S.Tb W σ' ν (rD X.K) H μ Q (match keyD d with
      | some k => .ok (.bl (false != (lkD (L.map fun p => (p.1, p.2.2)) k).isSome)) M
      | none => .stuck) := o
    cases q : keyD d with
    | none => rw [q] at o; exact o.elim
    | some k =>
      rw [q] at o
      obtain ⟨b, rfl, hb⟩ := keyD_R rd q
      obtain ⟨hm, xs, hx, hp⟩ := dict_of I h1 fun p hp => (h3 p hp).seq
      obtain rfl : v = Value.ref b := rx
      obtain rfl : u = Value.ref _ := ry
      refine wpAny_in_heap (knd := kI X.prog X.w) (k := k) (show X.A.units + 1 < cLine by omega) (key_I I hb) hm hx ?_
      rw [some_at hp]
      exact ⟨.bl _, H, I.tok _, rfl, by simpa using Ok.flat o (.bl _) sr⟩
  | _ => exact o.elim
theorem c_notinD_op (hu : X.A.units + 64 < cLine) : OpR X (compareOp .NotIn) (rC2 X.K S.Tb (gInD true)) := fun pins s σ H x y v u Q I rx ry h => by
  obtain ⟨W, σ', d, e, μ, ν, M, rd, re, sr, o⟩ := h
  cases re with
  | dct hd =>
    obtain ⟨L, h1, h2, h3, rfl⟩ := hd
    have o : Ok X.K S.Tb W σ' ν (rD X.K) H μ Q (match keyD d with
      | some k => .ok (.bl (true != (lkD (L.map fun p => (p.1, p.2.2)) k).isSome)) M
      | none => .stuck) := o
    cases q : keyD d with
    | none => rw [q] at o; exact o.elim
    | some k =>
      rw [q] at o
      obtain ⟨b, rfl, hb⟩ := keyD_R rd q
      obtain ⟨hm, xs, hx, hp⟩ := dict_of I h1 fun p hp => (h3 p hp).seq
      obtain rfl : v = Value.ref b := rx
      obtain rfl : u = Value.ref _ := ry
      refine wpAny_notIn_heap (knd := kI X.prog X.w) (k := k) (show X.A.units + 1 < cLine by omega) (key_I I hb) hm hx ?_
      rw [some_at hp]
      exact ⟨.bl _, H, I.tok _, rfl, by simpa using Ok.flat o (.bl _) sr⟩
  | _ => exact o.elim
theorem c_ixD_op (hu : X.A.units + 64 < cLine) : IxR X (rC2 X.K S.Tb gIxD) := fun value slice pins s σ H x y v u Q I rx ry h hs => by
  obtain ⟨W, σ', d, e, μ, ν, M, rd, re, sr, o⟩ := h
  cases rd with
  | dct hd =>
    obtain ⟨L, h1, h2, h3, rfl⟩ := hd
    have o : Ok X.K S.Tb W σ' ν (rD X.K) H μ Q (match keyD e with
      | some k => match lkD (L.map fun p => (p.1, p.2.2)) k with
        | some v => .ok (.int v) M
        | none => .stuck
      | none => .stuck) := o
    cases q : keyD e with
    | none => rw [q] at o; exact o.elim
    | some k =>
      rw [q] at o
      simp only at o
      obtain ⟨b, rfl, hb⟩ := keyD_R re q
      obtain ⟨hm, xs, hx, hp⟩ := dict_of I h1 fun p hp => (h3 p hp).seq
      obtain rfl : v = Value.ref _ := rx
      obtain rfl : u = Value.ref b := ry
      have z := lk_at (k := k) hp
      cases q2 : lkD (L.map fun p => (p.1, p.2.2)) k with
      | none => rw [q2] at o; exact o.elim
      | some w =>
        rw [q2] at o z
        obtain ⟨c, tk, ez⟩ := z
        exact tail_any hx.typeIs slot_dict_getitem.lookup (wpAny_getItem_heap (knd := kI X.prog X.w) (k := k) (show X.A.units + 1 < cLine by omega) (key_I I hb) hx ez ⟨.int w, H, I.tok _, ⟨tk, rfl⟩, Ok.flat o (.int _) sr⟩) hs
  | _ => exact o.elim
theorem c_ixD {W : WX} {a b : Expr} {fa fb : Env → Mem → Res D} {pos : Pos} (hu : X.A.units + 64 < cLine) (ha : PE X a (T X.K S W fa)) (hb : PE X b (T X.K S W fb)) (hs : PlainIx b := by exact fun _ _ => rfl) : PE X (.Subscript a b pos) (T X.K S W (fBin gIxD fa fb)) :=
  ⟨fun pins s σ H Q I h => (pe_ix (c_ixD_op hu) ha hb hs).run pins s σ H Q I (bin_read h)⟩
/-- sorted: ints, or tuples of ints -/
def gSrtA : List D → Mem → Res (List D) := fun ds M => match gSrt ds M with
  | .stuck => gSrtT ds M
  | r => r
theorem cn_sortA : CallR X (.builtin "sorted") (rCN X.K S.Tb gSrtA) := fun pins s σ H xs us Q I r h => by
  obtain ⟨W, σ', ds, μ, ν, M, rs, sr, o⟩ := h
  unfold gSrtA at o
  cases q : gSrt ds M with
  | stuck => rw [q] at o; exact cn_sortT pins s σ H xs us Q I r ⟨W, σ', ds, μ, ν, M, rs, sr, o⟩
  | ok a M1 => rw [q] at o; exact cn_sorted pins s σ H xs us Q I r ⟨W, σ', ds, μ, ν, M, rs, sr, by rw [q]; exact o⟩
  | exn a M1 => rw [q] at o; exact cn_sorted pins s σ H xs us Q I r ⟨W, σ', ds, μ, ν, M, rs, sr, by rw [q]; exact o⟩
end
end SD

set_option Elab.async false
set_option linter.all false
set_option maxRecDepth 100000
set_option maxHeartbeats 0
namespace KK
open PySem PySem.Spec PyProof.Rows L2 SD
def top (i : Nat) : Stmt := PySem.Challenge.pw_silentdecks_k09_ways_refused.main.body.getD i (.Pass ⟨0, 0, 0, 0⟩)
def exr_DeckError : List ((Str × Str) × Bool) := [(("DeckError", "BadCoins"), false), (("DeckError", "BadInput"), false), (("DeckError", "BadNumber"), false), (("DeckError", "BadSights"), false), (("DeckError", "BadWay"), false), (("DeckError", "BadWish"), false), (("DeckError", "DeckError"), true)]
def exr_BadWay : List ((Str × Str) × Bool) := [(("BadWay", "BadCoins"), false), (("BadWay", "BadInput"), false), (("BadWay", "BadNumber"), false), (("BadWay", "BadSights"), false), (("BadWay", "BadWay"), true), (("BadWay", "BadWish"), false), (("BadWay", "DeckError"), true)]
def exr_BadWish : List ((Str × Str) × Bool) := [(("BadWish", "BadCoins"), false), (("BadWish", "BadInput"), false), (("BadWish", "BadNumber"), false), (("BadWish", "BadSights"), false), (("BadWish", "BadWay"), false), (("BadWish", "BadWish"), true), (("BadWish", "DeckError"), true)]
def exr_BadInput : List ((Str × Str) × Bool) := [(("BadInput", "BadCoins"), false), (("BadInput", "BadInput"), true), (("BadInput", "BadNumber"), false), (("BadInput", "BadSights"), false), (("BadInput", "BadWay"), false), (("BadInput", "BadWish"), false), (("BadInput", "DeckError"), true)]
def exr_BadSights : List ((Str × Str) × Bool) := [(("BadSights", "BadCoins"), false), (("BadSights", "BadInput"), false), (("BadSights", "BadNumber"), false), (("BadSights", "BadSights"), true), (("BadSights", "BadWay"), false), (("BadSights", "BadWish"), false), (("BadSights", "DeckError"), true)]
def exr_BadCoins : List ((Str × Str) × Bool) := [(("BadCoins", "BadCoins"), true), (("BadCoins", "BadInput"), false), (("BadCoins", "BadNumber"), false), (("BadCoins", "BadSights"), false), (("BadCoins", "BadWay"), false), (("BadCoins", "BadWish"), false), (("BadCoins", "DeckError"), true)]
def exr_BadNumber : List ((Str × Str) × Bool) := [(("BadNumber", "BadCoins"), false), (("BadNumber", "BadInput"), false), (("BadNumber", "BadNumber"), true), (("BadNumber", "BadSights"), false), (("BadNumber", "BadWay"), false), (("BadNumber", "BadWish"), false), (("BadNumber", "DeckError"), true)]
def exmT : List ((Str × Str) × Bool) := exr_DeckError ++ exr_BadWay ++ exr_BadWish ++ exr_BadInput ++ exr_BadSights ++ exr_BadCoins ++ exr_BadNumber
def exmF (x c : Str) : Option Bool := exmT.lookup (x, c)
structure Gx (K : PySem.W.Frag) (mg : Str → Option Value) : Prop where
  z_all : mg "all" = none
  z_any : mg "any" = none
  z_bool : mg "bool" = none
  z_enumerate : mg "enumerate" = none
  z_int : mg "int" = none
  z_isinstance : mg "isinstance" = none
  z_len : mg "len" = none
  z_list : mg "list" = none
  z_min : mg "min" = none
  z_set : mg "set" = none
  z_str : mg "str" = none
  z_tuple : mg "tuple" = none
  z_zip : mg "zip" = none
  c_HIGHEST_COIN : ∃ t, mg "HIGHEST_COIN" = some (.int 839 t)
  c_MOST_BITS : ∃ t, mg "MOST_BITS" = some (.int 3 t)
  c_MOST_CARDS : ∃ t, mg "MOST_CARDS" = some (.int 8 t)
  c_MOST_COINS : ∃ t, mg "MOST_COINS" = some (.int 100 t)
  c_MOST_NODES : ∃ t, mg "MOST_NODES" = some (.int 24 t)
  c_MOST_SEEN : ∃ t, mg "MOST_SEEN" = some (.int 8 t)
  c_MOST_SIGHTS : ∃ t, mg "MOST_SIGHTS" = some (.int 6 t)
  x_BadCoins : mg "BadCoins" = some (.ref (He.ga K "BadCoins"))
  x_BadInput : mg "BadInput" = some (.ref (He.ga K "BadInput"))
  x_BadNumber : mg "BadNumber" = some (.ref (He.ga K "BadNumber"))
  x_BadSights : mg "BadSights" = some (.ref (He.ga K "BadSights"))
  x_BadWay : mg "BadWay" = some (.ref (He.ga K "BadWay"))
  x_BadWish : mg "BadWish" = some (.ref (He.ga K "BadWish"))
  x_DeckError : mg "DeckError" = some (.ref (He.ga K "DeckError"))
  f_ends_surely : mg "ends_surely" = some (.ref (He.ga K "ends_surely"))
  f_first_leak : mg "first_leak" = some (.ref (He.ga K "first_leak"))
  f_first_row : mg "first_row" = some (.ref (He.ga K "first_row"))
  f_first_wrong : mg "first_wrong" = some (.ref (He.ga K "first_wrong"))
  f_hand : mg "hand" = some (.ref (He.ga K "hand"))
  f_inputs : mg "inputs" = some (.ref (He.ga K "inputs"))
  f_is_sound : mg "is_sound" = some (.ref (He.ga K "is_sound"))
  f_mean_shuffles : mg "mean_shuffles" = some (.ref (He.ga K "mean_shuffles"))
  f_mean_turns : mg "mean_turns" = some (.ref (He.ga K "mean_turns"))
  f_shows_sound : mg "shows_sound" = some (.ref (He.ga K "shows_sound"))
  f_shuffles_passed : mg "shuffles_passed" = some (.ref (He.ga K "shuffles_passed"))
  f_sight_chance : mg "sight_chance" = some (.ref (He.ga K "sight_chance"))
  f_sound_table : mg "sound_table" = some (.ref (He.ga K "sound_table"))
  f_written : mg "written" = some (.ref (He.ga K "written"))
  e_BadCoins : PySem.W.excIn K (He.ga K "BadCoins") He.veBase "ValueError.__new__" = true ∧ PySem.W.keepIn K (.ref (He.ga K "BadCoins")) = true ∧ PySem.W.subIn K (.ref (He.ga K "BadCoins")) (.type "BaseException") = some true ∧ PySem.W.typeIn K (.ref (He.ga K "BadCoins")) = some (.type "type")
  e_BadInput : PySem.W.excIn K (He.ga K "BadInput") He.veBase "ValueError.__new__" = true ∧ PySem.W.keepIn K (.ref (He.ga K "BadInput")) = true ∧ PySem.W.subIn K (.ref (He.ga K "BadInput")) (.type "BaseException") = some true ∧ PySem.W.typeIn K (.ref (He.ga K "BadInput")) = some (.type "type")
  e_BadNumber : PySem.W.excIn K (He.ga K "BadNumber") He.veBase "ValueError.__new__" = true ∧ PySem.W.keepIn K (.ref (He.ga K "BadNumber")) = true ∧ PySem.W.subIn K (.ref (He.ga K "BadNumber")) (.type "BaseException") = some true ∧ PySem.W.typeIn K (.ref (He.ga K "BadNumber")) = some (.type "type")
  e_BadSights : PySem.W.excIn K (He.ga K "BadSights") He.veBase "ValueError.__new__" = true ∧ PySem.W.keepIn K (.ref (He.ga K "BadSights")) = true ∧ PySem.W.subIn K (.ref (He.ga K "BadSights")) (.type "BaseException") = some true ∧ PySem.W.typeIn K (.ref (He.ga K "BadSights")) = some (.type "type")
  e_BadWish : PySem.W.excIn K (He.ga K "BadWish") He.veBase "ValueError.__new__" = true ∧ PySem.W.keepIn K (.ref (He.ga K "BadWish")) = true ∧ PySem.W.subIn K (.ref (He.ga K "BadWish")) (.type "BaseException") = some true ∧ PySem.W.typeIn K (.ref (He.ga K "BadWish")) = some (.type "type")
  xf_BadWay : XfC K (He.ga K "BadWay")
  no_BadWay_node : PySem.W.findIn K (.ref (He.ga K "BadWay")) "node" = some none
  no_BadWay_word : PySem.W.findIn K (.ref (He.ga K "BadWay")) "word" = some none
  exm : ∀ x c b, exmF x c = some b → PySem.W.exmOne K (.ref (He.ga K x)) (.ref (He.ga K c)) = some b
variable {P : Program} {w : World} {K : PySem.W.Frag} {mg : Str → Option Value} {base : Heap} {Tb : List (Addr × Str)}
abbrev s__law_taken : Stmt := top 129
def N__law_taken : List Str := ["row", "many", "found", "cell"]
def g__law_taken : SD.Env → Mem → SRes := (fSeq (fIfS (fBl (fBin gGt (fBin gIx (fVar 0) (fC (.int 3))) (fC (.int 0)))) (fSeq (fAsg (fBin gMod (fCall gInt (fCons (fBin gIx (fVar 0) (fC (.int 3))) fNil)) (fVar 1)) (aName 2))
  (fSeq (fSetIx (fBin gDiv (fBin gIx (fVar 0) (fC (.int 3))) (fVar 1)) (fVar 0) (fC (.int 3)))
  (fRet (fVar 2))))
  fNext)
  (fSeq (fSetIx (fBin gAdd (fBin gIx (fVar 0) (fC (.int 1))) (fC (.int 1))) (fVar 0) (fC (.int 1)))
  (fSeq (fIfS (fBl (fBin gGt (fBin gIx (fVar 0) (fC (.int 1))) (fCall gLen (fCons (fBin gIx (fVar 0) (fC (.int 0))) fNil)))) (fSeq (fSetIx (fBin gMod (fCall gInt (fCons (fBin gAdd (fBin gMul (fBin gIx (fVar 0) (fC (.int 2))) (fC (.int 48271))) (fC (.int 11))) fNil)) (fC (.int 2147483647))) (fVar 0) (fC (.int 2)))
  (fRet (fBin gMod (fCall gInt (fCons (fBin gDiv (fBin gIx (fVar 0) (fC (.int 2))) (fC (.int 7))) fNil)) (fVar 1))))
  fNext)
  (fSeq (fAsg (fBin gIx (fBin gIx (fVar 0) (fC (.int 0))) (fBin gSub (fBin gIx (fVar 0) (fC (.int 1))) (fC (.int 1)))) (aName 3))
  (fSeq (fSetIx (fBin gMod (fCall gInt (fCons (fBin gAdd (fBin gAdd (fBin gMul (fBin gIx (fVar 0) (fC (.int 2))) (fC (.int 48271))) (fVar 3)) (fC (.int 11))) fNil)) (fC (.int 2147483647))) (fVar 0) (fC (.int 2)))
  (fSeq (fIfS (fBl (fBin gGe (fVar 3) (fBin gPow (fC (.int 10)) (fC (.int 18))))) (fSetIx (fBin gDiv (fVar 3) (fVar 1)) (fVar 0) (fC (.int 3)))
  fNext)
  (fRet (fBin gMod (fCall gInt (fCons (fVar 3) fNil)) (fVar 1)))))))))
def m__law_taken : List D → Mem → Res D := SD.mOf 4 (g__law_taken)
theorem b__law_taken (g : Gx K mg) {f : Addr}  (cdv : Value) (A : Around) (outer : List PySem.Env) (s : Shared) (H : Hp) (E : XK) (hr : Room 0 (A.deeper (envOfC "_law_taken" (defScope s__law_taken) s.heap.objs.size f cdv))) :
    PSs (cxOf (L2.CX P w) P w K mg base N__law_taken "_law_taken" (defScope s__law_taken) f cdv A outer s H E) (defBody s__law_taken) (TSc K (plainS Tb) (WX0 E) (g__law_taken)) := by
  have nd : N__law_taken.Nodup := by decide
  have hu := hr.units
  unfold g__law_taken
  exact (cs_cons (c_ifS (ct_cmp (c_gt_op hu) (c_ix (c_var (i := 0) rfl (by first | exact .inl rfl | exact .inr (.inl rfl) | exact .inr (.inr rfl))) c_int) c_int (by first | rfl | kernel_rfl)) (cs_cons (c_set (i := 2) nd rfl (by first | exact .inl rfl | exact .inr rfl) (c_bin c_mod_op (c_callT cc_int (by first | rfl | kernel_rfl) g.z_int (by decide +kernel) (ca_cons (c_ix (c_var (i := 0) rfl (by first | exact .inl rfl | exact .inr (.inl rfl) | exact .inr (.inr rfl))) c_int) ca_nil)) (c_var (i := 1) rfl (by first | exact .inl rfl | exact .inr (.inl rfl) | exact .inr (.inr rfl)))) (hf := by first | exact .inl rfl | exact .inr rfl))
  (cs_cons (c_setIx (c_bin c_div_op (c_ix (c_var (i := 0) rfl (by first | exact .inl rfl | exact .inr (.inl rfl) | exact .inr (.inr rfl))) c_int) (c_var (i := 1) rfl (by first | exact .inl rfl | exact .inr (.inl rfl) | exact .inr (.inr rfl)))) (c_var (i := 0) rfl (by first | exact .inl rfl | exact .inr (.inl rfl) | exact .inr (.inr rfl))) c_int)
  (cs_one (c_ret (c_var (i := 2) rfl (by first | exact .inl rfl | exact .inr (.inl rfl) | exact .inr (.inr rfl)))))))
  cs_nil)
  (cs_cons (c_setIx (c_bin c_add_op (c_ix (c_var (i := 0) rfl (by first | exact .inl rfl | exact .inr (.inl rfl) | exact .inr (.inr rfl))) c_int) c_int) (c_var (i := 0) rfl (by first | exact .inl rfl | exact .inr (.inl rfl) | exact .inr (.inr rfl))) c_int)
  (cs_cons (c_ifS (ct_cmp (c_gt_op hu) (c_ix (c_var (i := 0) rfl (by first | exact .inl rfl | exact .inr (.inl rfl) | exact .inr (.inr rfl))) c_int) (c_callB cc_len (by first | rfl | kernel_rfl) g.z_len (by decide +kernel) (ca_cons (c_ix (c_var (i := 0) rfl (by first | exact .inl rfl | exact .inr (.inl rfl) | exact .inr (.inr rfl))) c_int) ca_nil)) (by first | rfl | kernel_rfl)) (cs_cons (c_setIx (c_bin c_mod_op (c_callT cc_int (by first | rfl | kernel_rfl) g.z_int (by decide +kernel) (ca_cons (c_bin c_add_op (c_bin c_mul_op (c_ix (c_var (i := 0) rfl (by first | exact .inl rfl | exact .inr (.inl rfl) | exact .inr (.inr rfl))) c_int) c_int) c_int) ca_nil)) c_int) (c_var (i := 0) rfl (by first | exact .inl rfl | exact .inr (.inl rfl) | exact .inr (.inr rfl))) c_int)
  (cs_one (c_ret (c_bin c_mod_op (c_callT cc_int (by first | rfl | kernel_rfl) g.z_int (by decide +kernel) (ca_cons (c_bin c_div_op (c_ix (c_var (i := 0) rfl (by first | exact .inl rfl | exact .inr (.inl rfl) | exact .inr (.inr rfl))) c_int) c_int) ca_nil)) (c_var (i := 1) rfl (by first | exact .inl rfl | exact .inr (.inl rfl) | exact .inr (.inr rfl)))))))
  cs_nil)
  (cs_cons (c_set (i := 3) nd rfl (by first | exact .inl rfl | exact .inr rfl) (c_ix (c_ix (c_var (i := 0) rfl (by first | exact .inl rfl | exact .inr (.inl rfl) | exact .inr (.inr rfl))) c_int) (c_bin c_sub_op (c_ix (c_var (i := 0) rfl (by first | exact .inl rfl | exact .inr (.inl rfl) | exact .inr (.inr rfl))) c_int) c_int)) (hf := by first | exact .inl rfl | exact .inr rfl))
  (cs_cons (c_setIx (c_bin c_mod_op (c_callT cc_int (by first | rfl | kernel_rfl) g.z_int (by decide +kernel) (ca_cons (c_bin c_add_op (c_bin c_add_op (c_bin c_mul_op (c_ix (c_var (i := 0) rfl (by first | exact .inl rfl | exact .inr (.inl rfl) | exact .inr (.inr rfl))) c_int) c_int) (c_var (i := 3) rfl (by first | exact .inl rfl | exact .inr (.inl rfl) | exact .inr (.inr rfl)))) c_int) ca_nil)) c_int) (c_var (i := 0) rfl (by first | exact .inl rfl | exact .inr (.inl rfl) | exact .inr (.inr rfl))) c_int)
  (cs_cons (c_ifS (ct_cmp (c_ge_op hu) (c_var (i := 3) rfl (by first | exact .inl rfl | exact .inr (.inl rfl) | exact .inr (.inr rfl))) (c_bin c_pow_op c_int c_int) (by first | rfl | kernel_rfl)) (cs_one (c_setIx (c_bin c_div_op (c_var (i := 3) rfl (by first | exact .inl rfl | exact .inr (.inl rfl) | exact .inr (.inr rfl))) (c_var (i := 1) rfl (by first | exact .inl rfl | exact .inr (.inl rfl) | exact .inr (.inr rfl)))) (c_var (i := 0) rfl (by first | exact .inl rfl | exact .inr (.inl rfl) | exact .inr (.inr rfl))) c_int))
  cs_nil)
  (cs_one (c_ret (c_bin c_mod_op (c_callT cc_int (by first | rfl | kernel_rfl) g.z_int (by decide +kernel) (ca_cons (c_var (i := 3) rfl (by first | exact .inl rfl | exact .inr (.inl rfl) | exact .inr (.inr rfl))) ca_nil)) (c_var (i := 1) rfl (by first | exact .inl rfl | exact .inr (.inl rfl) | exact .inr (.inr rfl))))))))))))
abbrev s__law_pick : Stmt := top 130
def N__law_pick : List Str := ["row", "things"]
def g__law_pick : SD.Env → Mem → SRes := (fRet (fBin gIx (fVar 1) (fFn 2 m__law_taken (fCons (fVar 0) (fCons (fCall gLen (fCons (fVar 1) fNil)) fNil)))))
def m__law_pick : List D → Mem → Res D := SD.mOf 2 (g__law_pick)
theorem b__law_pick (g : Gx K mg) {f : Addr} (F__law_taken : DefOk P w K mg base Tb 1 "_law_taken" 2 m__law_taken) (cdv : Value) (A : Around) (outer : List PySem.Env) (s : Shared) (H : Hp) (E : XK) (hr : Room 1 (A.deeper (envOfC "_law_pick" (defScope s__law_pick) s.heap.objs.size f cdv))) :
    PSs (cxOf (L2.CX P w) P w K mg base N__law_pick "_law_pick" (defScope s__law_pick) f cdv A outer s H E) (defBody s__law_pick) (TSc K (plainS Tb) (WX0 E) (g__law_pick)) := by
  have nd : N__law_pick.Nodup := by decide
  have hu := hr.units
  unfold g__law_pick
  exact (cs_one (c_ret (c_ix (c_var (i := 1) rfl (by first | exact .inl rfl | exact .inr (.inl rfl) | exact .inr (.inr rfl))) (c_call F__law_taken hr (by decide) (by first | rfl | kernel_rfl) tk_cx (ca_cons (c_var (i := 0) rfl (by first | exact .inl rfl | exact .inr (.inl rfl) | exact .inr (.inr rfl))) (ca_cons (c_callB cc_len (by first | rfl | kernel_rfl) g.z_len (by decide +kernel) (ca_cons (c_var (i := 1) rfl (by first | exact .inl rfl | exact .inr (.inl rfl) | exact .inr (.inr rfl))) ca_nil)) ca_nil))))))
abbrev s__law_word : Stmt := top 132
def N__law_word : List Str := ["work", "e"]
def g__law_word (act : Mem → Res D) : SD.Env → Mem → SRes := (fSeq (fTry exmF (fExpr (fAct act)) [⟨"BadWay", some 1, fun x8 => (fRet (fBin gAdd (fXf "BadWay" x8 "word") (fUn gLow (fCall gStr (fCons (fXf "BadWay" x8 "node") fNil)))))⟩, ⟨"BadWish", none, fun x7 => (fRet (fC (.str "wish")))⟩, ⟨"BadInput", none, fun x6 => (fRet (fC (.str "input")))⟩, ⟨"BadSights", none, fun x5 => (fRet (fC (.str "sights")))⟩, ⟨"BadCoins", none, fun x4 => (fRet (fC (.str "coins")))⟩, ⟨"BadNumber", none, fun x3 => (fRet (fC (.str "number")))⟩, ⟨"DeckError", none, fun x2 => (fRet (fC (.str "other")))⟩])
  (fRet (fC (.str "ok"))))
theorem b__law_word (X : Cx) (g : Gx X.K X.mg) {g0 : Addr} {cdv : Value} : Gives X Tb N__law_word "_law_word" (defScope s__law_word) g0 cdv (defBody s__law_word) "work" g__law_word := by
  intro act s H H0 μ ν f c' q hact
  have nd : N__law_word.Nodup := by decide
  unfold g__law_word
  exact (cs_cons (by
    refine c_try (exm := exmF) rfl rfl nd takes0 g.exm (fun _ _ _ tk1 own1 => (cs_one (c_expr (hact _ _ _ _ _ tk1)))) ?_
    exact (.named ⟨by first | rfl | kernel_rfl, by decide, .inl g.x_BadWay⟩ (by kpt_turns) rfl (by first | rfl | kernel_rfl) (fun x8 _ _ _ _ _ hz8 hf8 => (cs_one (c_ret (c_bin c_add_op (c_xf g.xf_BadWay g.no_BadWay_word hz8 hf8 rfl (by first | exact .inl rfl | exact .inr (.inl rfl) | exact .inr (.inr rfl))) (c_lower (c_callT cc_str (by first | rfl | kernel_rfl) g.z_str (by decide +kernel) (ca_cons (c_xf g.xf_BadWay g.no_BadWay_node hz8 hf8 rfl (by first | exact .inl rfl | exact .inr (.inl rfl) | exact .inr (.inr rfl))) ca_nil))))))) (.bare ⟨by first | rfl | kernel_rfl, by decide, .inl g.x_BadWish⟩ (fun x7 _ _ _ _ _ hz7 hf7 => (cs_one (c_ret c_str))) (.bare ⟨by first | rfl | kernel_rfl, by decide, .inl g.x_BadInput⟩ (fun x6 _ _ _ _ _ hz6 hf6 => (cs_one (c_ret c_str))) (.bare ⟨by first | rfl | kernel_rfl, by decide, .inl g.x_BadSights⟩ (fun x5 _ _ _ _ _ hz5 hf5 => (cs_one (c_ret c_str))) (.bare ⟨by first | rfl | kernel_rfl, by decide, .inl g.x_BadCoins⟩ (fun x4 _ _ _ _ _ hz4 hf4 => (cs_one (c_ret c_str))) (.bare ⟨by first | rfl | kernel_rfl, by decide, .inl g.x_BadNumber⟩ (fun x3 _ _ _ _ _ hz3 hf3 => (cs_one (c_ret c_str))) (.bare ⟨by first | rfl | kernel_rfl, by decide, .inl g.x_DeckError⟩ (fun x2 _ _ _ _ _ hz2 hf2 => (cs_one (c_ret c_str))) .nil))))))))
  (cs_one (c_ret c_str)))
abbrev s_is_integer : Stmt := top 11
def N_is_integer : List Str := ["value"]
def g_is_integer : SD.Env → Mem → SRes := (fRet (fAnd (fGo (gIsi ["int"]) (fVar 0)) (fNot (fGo (gIsi ["bool"]) (fVar 0)))))
def m_is_integer : List D → Mem → Res D := SD.mOf 1 (g_is_integer)
theorem b_is_integer (g : Gx K mg) {f : Addr}  (cdv : Value) (A : Around) (outer : List PySem.Env) (s : Shared) (H : Hp) (E : XK) (hr : Room 0 (A.deeper (envOfC "is_integer" (defScope s_is_integer) s.heap.objs.size f cdv))) :
    PSs (cxOf (L2.CX P w) P w K mg base N_is_integer "is_integer" (defScope s_is_integer) f cdv A outer s H E) (defBody s_is_integer) (TSc K (plainS Tb) (WX0 E) (g_is_integer)) := by
  have nd : N_is_integer.Nodup := by decide
  have hu := hr.units
  unfold g_is_integer
  exact (cs_one (c_ret (c_and (c_isi good_int (by first | rfl | kernel_rfl) g.z_isinstance (by first | rfl | kernel_rfl) g.z_int (by decide +kernel) (c_var (i := 0) rfl (by first | exact .inl rfl | exact .inr (.inl rfl) | exact .inr (.inr rfl)))) (c_one (c_not (c_isi good_bool (by first | rfl | kernel_rfl) g.z_isinstance (by first | rfl | kernel_rfl) g.z_bool (by decide +kernel) (c_var (i := 0) rfl (by first | exact .inl rfl | exact .inr (.inl rfl) | exact .inr (.inr rfl)))))))))
abbrev s_is_number : Stmt := top 12
def N_is_number : List Str := ["value", "least", "most"]
def g_is_number : SD.Env → Mem → SRes := (fRet (fAnd (fFn 1 m_is_integer (fCons (fVar 0) fNil)) (fChain gLe gLe (fVar 1) (fVar 0) (fVar 2))))
def m_is_number : List D → Mem → Res D := SD.mOf 3 (g_is_number)
theorem b_is_number (g : Gx K mg) {f : Addr} (F_is_integer : DefOk P w K mg base Tb 1 "is_integer" 1 m_is_integer) (cdv : Value) (A : Around) (outer : List PySem.Env) (s : Shared) (H : Hp) (E : XK) (hr : Room 1 (A.deeper (envOfC "is_number" (defScope s_is_number) s.heap.objs.size f cdv))) :
    PSs (cxOf (L2.CX P w) P w K mg base N_is_number "is_number" (defScope s_is_number) f cdv A outer s H E) (defBody s_is_number) (TSc K (plainS Tb) (WX0 E) (g_is_number)) := by
  have nd : N_is_number.Nodup := by decide
  have hu := hr.units
  unfold g_is_number
  exact (cs_one (c_ret (c_and (c_call F_is_integer hr (by decide) (by first | rfl | kernel_rfl) tk_cx (ca_cons (c_var (i := 0) rfl (by first | exact .inl rfl | exact .inr (.inl rfl) | exact .inr (.inr rfl))) ca_nil)) (c_one (c_chain (c_le_op hu) (c_le_op hu) (c_var (i := 1) rfl (by first | exact .inl rfl | exact .inr (.inl rfl) | exact .inr (.inr rfl))) (c_var (i := 0) rfl (by first | exact .inl rfl | exact .inr (.inl rfl) | exact .inr (.inr rfl))) (c_var (i := 2) rfl (by first | exact .inl rfl | exact .inr (.inl rfl) | exact .inr (.inr rfl))) (by first | rfl | kernel_rfl))))))
abbrev s_is_tuple : Stmt := top 13
def N_is_tuple : List Str := ["value", "least", "most"]
def g_is_tuple : SD.Env → Mem → SRes := (fRet (fAnd (fGo (gIsi ["tuple"]) (fVar 0)) (fChain gLe gLe (fVar 1) (fCall gLen (fCons (fVar 0) fNil)) (fVar 2))))
def m_is_tuple : List D → Mem → Res D := SD.mOf 3 (g_is_tuple)
theorem b_is_tuple (g : Gx K mg) {f : Addr}  (cdv : Value) (A : Around) (outer : List PySem.Env) (s : Shared) (H : Hp) (E : XK) (hr : Room 0 (A.deeper (envOfC "is_tuple" (defScope s_is_tuple) s.heap.objs.size f cdv))) :
    PSs (cxOf (L2.CX P w) P w K mg base N_is_tuple "is_tuple" (defScope s_is_tuple) f cdv A outer s H E) (defBody s_is_tuple) (TSc K (plainS Tb) (WX0 E) (g_is_tuple)) := by
  have nd : N_is_tuple.Nodup := by decide
  have hu := hr.units
  unfold g_is_tuple
  exact (cs_one (c_ret (c_and (c_isi good_tuple (by first | rfl | kernel_rfl) g.z_isinstance (by first | rfl | kernel_rfl) g.z_tuple (by decide +kernel) (c_var (i := 0) rfl (by first | exact .inl rfl | exact .inr (.inl rfl) | exact .inr (.inr rfl)))) (c_one (c_chain (c_le_op hu) (c_le_op hu) (c_var (i := 1) rfl (by first | exact .inl rfl | exact .inr (.inl rfl) | exact .inr (.inr rfl))) (c_callB cc_len (by first | rfl | kernel_rfl) g.z_len (by decide +kernel) (ca_cons (c_var (i := 0) rfl (by first | exact .inl rfl | exact .inr (.inl rfl) | exact .inr (.inr rfl))) ca_nil)) (c_var (i := 2) rfl (by first | exact .inl rfl | exact .inr (.inl rfl) | exact .inr (.inr rfl))) (by first | rfl | kernel_rfl))))))
abbrev s_are_bits : Stmt := top 14
def N_are_bits : List Str := ["value", "least", "most", "bit"]
def g_are_bits : SD.Env → Mem → SRes := (fRet (fAnd (fFn 3 m_is_tuple (fCons (fVar 0) (fCons (fVar 1) (fCons (fVar 2) fNil)))) (fCall gAll (fCons (fLst (fComp (fIt (fVar 0)) [3] (aName 3) (fun _ M => .ok true M) (fFn 3 m_is_number (fCons (fVar 3) (fCons (fC (.int 0)) (fCons (fC (.int 1)) fNil)))))) fNil))))
def m_are_bits : List D → Mem → Res D := SD.mOf 4 (g_are_bits)
theorem b_are_bits (g : Gx K mg) {f : Addr} (F_is_tuple : DefOk P w K mg base Tb 1 "is_tuple" 3 m_is_tuple) (F_is_number : DefOk P w K mg base Tb 2 "is_number" 3 m_is_number) (cdv : Value) (A : Around) (outer : List PySem.Env) (s : Shared) (H : Hp) (E : XK) (hr : Room 2 (A.deeper (envOfC "are_bits" (defScope s_are_bits) s.heap.objs.size f cdv))) :
    PSs (cxOf (L2.CX P w) P w K mg base N_are_bits "are_bits" (defScope s_are_bits) f cdv A outer s H E) (defBody s_are_bits) (TSc K (plainS Tb) (WX0 E) (g_are_bits)) := by
  have nd : N_are_bits.Nodup := by decide
  have hu := hr.units
  unfold g_are_bits
  exact (cs_one (c_ret (c_and (c_call F_is_tuple hr (by decide) (by first | rfl | kernel_rfl) tk_cx (ca_cons (c_var (i := 0) rfl (by first | exact .inl rfl | exact .inr (.inl rfl) | exact .inr (.inr rfl))) (ca_cons (c_var (i := 1) rfl (by first | exact .inl rfl | exact .inr (.inl rfl) | exact .inr (.inr rfl))) (ca_cons (c_var (i := 2) rfl (by first | exact .inl rfl | exact .inr (.inl rfl) | exact .inr (.inr rfl))) ca_nil)))) (c_one (c_callB (cc_all rfl) (by first | rfl | kernel_rfl) g.z_all (by decide +kernel) (ca_cons (c_lstN (c_lc rfl nd (own := [("bit", 3)]) (ix := [3]) (ci_seq (c_var (i := 0) rfl (by first | exact .inl rfl | exact .inr (.inl rfl) | exact .inr (.inr rfl)))) (blk_of (by first | rfl | kernel_rfl)) (by decide) (fun _ _ _ _ _ => (cg_name (i := 3) nd rfl (by first | exact .inl rfl | exact .inr rfl) (by first | exact .inl rfl | exact .inr rfl))) (fun _ _ _ _ _ => cts_nil) (fun _ _ _ _ _ => (c_call F_is_number hr (by decide) (by first | rfl | kernel_rfl) takes0 (ca_cons (c_var (i := 3) rfl (by first | exact .inl rfl | exact .inr (.inl rfl) | exact .inr (.inr rfl))) (ca_cons c_int (ca_cons c_int ca_nil))))))) ca_nil))))))
abbrev s_head_fault : Stmt := top 34
def N_head_fault : List Str := ["bits", "helps"]
def g_head_fault : SD.Env → Mem → SRes := (fSeq (fIfS (fNotT (fTr (fFn 3 m_is_number (fCons (fVar 0) (fCons (fC (.int 1)) (fCons (fC (.int 3)) fNil)))))) (fRet (fC (.str "bits")))
  fNext)
  (fSeq (fIfS (fNotT (fTr (fFn 3 m_are_bits (fCons (fVar 1) (fCons (fC (.int 0)) (fCons (fBin gSub (fC (.int 8)) (fBin gMul (fC (.int 2)) (fVar 0))) fNil)))))) (fRet (fC (.str "helps")))
  fNext)
  (fRet (fC .non))))
def m_head_fault : List D → Mem → Res D := SD.mOf 2 (g_head_fault)
theorem b_head_fault (g : Gx K mg) {f : Addr} (F_is_number : DefOk P w K mg base Tb 2 "is_number" 3 m_is_number) (F_are_bits : DefOk P w K mg base Tb 3 "are_bits" 3 m_are_bits) (cdv : Value) (A : Around) (outer : List PySem.Env) (s : Shared) (H : Hp) (E : XK) (hr : Room 3 (A.deeper (envOfC "head_fault" (defScope s_head_fault) s.heap.objs.size f cdv))) :
    PSs (cxOf (L2.CX P w) P w K mg base N_head_fault "head_fault" (defScope s_head_fault) f cdv A outer s H E) (defBody s_head_fault) (TSc K (plainS Tb) (WX0 E) (g_head_fault)) := by
  have nd : N_head_fault.Nodup := by decide
  have hu := hr.units
  unfold g_head_fault
  exact (cs_cons (c_ifS (ct_not (c_tr (c_call F_is_number hr (by decide) (by first | rfl | kernel_rfl) tk_cx (ca_cons (c_var (i := 0) rfl (by first | exact .inl rfl | exact .inr (.inl rfl) | exact .inr (.inr rfl))) (ca_cons c_int (ca_cons (c_glob (by first | rfl | kernel_rfl) g.c_MOST_BITS) ca_nil)))))) (cs_one (c_ret c_str))
  cs_nil)
  (cs_cons (c_ifS (ct_not (c_tr (c_call F_are_bits hr (by decide) (by first | rfl | kernel_rfl) tk_cx (ca_cons (c_var (i := 1) rfl (by first | exact .inl rfl | exact .inr (.inl rfl) | exact .inr (.inr rfl))) (ca_cons c_int (ca_cons (c_bin c_sub_op (c_glob (by first | rfl | kernel_rfl) g.c_MOST_CARDS) (c_bin c_mul_op c_int (c_var (i := 0) rfl (by first | exact .inl rfl | exact .inr (.inl rfl) | exact .inr (.inr rfl))))) ca_nil)))))) (cs_one (c_ret c_str))
  cs_nil)
  (cs_one (c_ret c_non))))
abbrev s_are_places : Stmt := top 15
def N_are_places : List Str := ["value", "cards", "place"]
def g_are_places : SD.Env → Mem → SRes := (fSeq (fIfS (fNotT (fTr (fGo (gIsi ["tuple"]) (fVar 0)))) (fRet (fC (.bl false)))
  fNext)
  (fSeq (fIfS (fNotT (fTr (fCall gAll (fCons (fLst (fComp (fIt (fVar 0)) [2] (aName 2) (fun _ M => .ok true M) (fFn 3 m_is_number (fCons (fVar 2) (fCons (fC (.int 0)) (fCons (fBin gSub (fVar 1) (fC (.int 1))) fNil)))))) fNil)))) (fRet (fC (.bl false)))
  fNext)
  (fRet (fBin gEq (fGo gLenSet (fVar 0)) (fCall gLen (fCons (fVar 0) fNil))))))
def m_are_places : List D → Mem → Res D := SD.mOf 3 (g_are_places)
theorem b_are_places (g : Gx K mg) {f : Addr} (F_is_number : DefOk P w K mg base Tb 2 "is_number" 3 m_is_number) (cdv : Value) (A : Around) (outer : List PySem.Env) (s : Shared) (H : Hp) (E : XK) (hr : Room 2 (A.deeper (envOfC "are_places" (defScope s_are_places) s.heap.objs.size f cdv))) :
    PSs (cxOf (L2.CX P w) P w K mg base N_are_places "are_places" (defScope s_are_places) f cdv A outer s H E) (defBody s_are_places) (TSc K (plainS Tb) (WX0 E) (g_are_places)) := by
  have nd : N_are_places.Nodup := by decide
  have hu := hr.units
  unfold g_are_places
  exact (cs_cons (c_ifS (ct_not (c_tr (c_isi good_tuple (by first | rfl | kernel_rfl) g.z_isinstance (by first | rfl | kernel_rfl) g.z_tuple (by decide +kernel) (c_var (i := 0) rfl (by first | exact .inl rfl | exact .inr (.inl rfl) | exact .inr (.inr rfl)))))) (cs_one (c_ret c_bl))
  cs_nil)
  (cs_cons (c_ifS (ct_not (c_tr (c_callB (cc_all rfl) (by first | rfl | kernel_rfl) g.z_all (by decide +kernel) (ca_cons (c_lstN (c_lc rfl nd (own := [("place", 2)]) (ix := [2]) (ci_seq (c_var (i := 0) rfl (by first | exact .inl rfl | exact .inr (.inl rfl) | exact .inr (.inr rfl)))) (blk_of (by first | rfl | kernel_rfl)) (by decide) (fun _ _ _ _ _ => (cg_name (i := 2) nd rfl (by first | exact .inl rfl | exact .inr rfl) (by first | exact .inl rfl | exact .inr rfl))) (fun _ _ _ _ _ => cts_nil) (fun _ _ _ _ _ => (c_call F_is_number hr (by decide) (by first | rfl | kernel_rfl) takes0 (ca_cons (c_var (i := 2) rfl (by first | exact .inl rfl | exact .inr (.inl rfl) | exact .inr (.inr rfl))) (ca_cons c_int (ca_cons (c_bin c_sub_op (c_var (i := 1) rfl (by first | exact .inl rfl | exact .inr (.inl rfl) | exact .inr (.inr rfl))) c_int) ca_nil))))))) ca_nil)))) (cs_one (c_ret c_bl))
  cs_nil)
  (cs_one (c_ret (c_cmp (c_eq_op hu) (c_lenSet rfl (by first | rfl | kernel_rfl) g.z_len (by first | rfl | kernel_rfl) g.z_set (c_var (i := 0) rfl (by first | exact .inl rfl | exact .inr (.inl rfl) | exact .inr (.inr rfl)))) (c_callB cc_len (by first | rfl | kernel_rfl) g.z_len (by decide +kernel) (ca_cons (c_var (i := 0) rfl (by first | exact .inl rfl | exact .inr (.inl rfl) | exact .inr (.inr rfl))) ca_nil)) (by first | rfl | kernel_rfl))))))
abbrev s_is_order : Stmt := top 16
def N_is_order : List Str := ["value", "cards"]
def g_is_order : SD.Env → Mem → SRes := (fRet (fAnd (fFn 2 m_are_places (fCons (fVar 0) (fCons (fVar 1) fNil))) (fBin gEq (fCall gLen (fCons (fVar 0) fNil)) (fVar 1))))
def m_is_order : List D → Mem → Res D := SD.mOf 2 (g_is_order)
theorem b_is_order (g : Gx K mg) {f : Addr} (F_are_places : DefOk P w K mg base Tb 3 "are_places" 2 m_are_places) (cdv : Value) (A : Around) (outer : List PySem.Env) (s : Shared) (H : Hp) (E : XK) (hr : Room 3 (A.deeper (envOfC "is_order" (defScope s_is_order) s.heap.objs.size f cdv))) :
    PSs (cxOf (L2.CX P w) P w K mg base N_is_order "is_order" (defScope s_is_order) f cdv A outer s H E) (defBody s_is_order) (TSc K (plainS Tb) (WX0 E) (g_is_order)) := by
  have nd : N_is_order.Nodup := by decide
  have hu := hr.units
  unfold g_is_order
  exact (cs_one (c_ret (c_and (c_call F_are_places hr (by decide) (by first | rfl | kernel_rfl) tk_cx (ca_cons (c_var (i := 0) rfl (by first | exact .inl rfl | exact .inr (.inl rfl) | exact .inr (.inr rfl))) (ca_cons (c_var (i := 1) rfl (by first | exact .inl rfl | exact .inr (.inl rfl) | exact .inr (.inr rfl))) ca_nil))) (c_one (c_cmp (c_eq_op hu) (c_callB cc_len (by first | rfl | kernel_rfl) g.z_len (by decide +kernel) (ca_cons (c_var (i := 0) rfl (by first | exact .inl rfl | exact .inr (.inl rfl) | exact .inr (.inr rfl))) ca_nil)) (c_var (i := 1) rfl (by first | exact .inl rfl | exact .inr (.inl rfl) | exact .inr (.inr rfl))) (by first | rfl | kernel_rfl))))))
abbrev s_is_move : Stmt := top 36
def N_is_move : List Str := ["node", "cards", "nodes"]
def g_is_move : SD.Env → Mem → SRes := (fRet (fAnd (fBin gEq (fCall gLen (fCons (fVar 0) fNil)) (fC (.int 3))) (fAnd (fFn 2 m_is_order (fCons (fBin gIx (fVar 0) (fC (.int 1))) (fCons (fVar 1) fNil))) (fFn 3 m_is_number (fCons (fBin gIx (fVar 0) (fC (.int 2))) (fCons (fC (.int 0)) (fCons (fBin gSub (fVar 2) (fC (.int 1))) fNil)))))))
def m_is_move : List D → Mem → Res D := SD.mOf 3 (g_is_move)
theorem b_is_move (g : Gx K mg) {f : Addr} (F_is_order : DefOk P w K mg base Tb 4 "is_order" 2 m_is_order) (F_is_number : DefOk P w K mg base Tb 2 "is_number" 3 m_is_number) (cdv : Value) (A : Around) (outer : List PySem.Env) (s : Shared) (H : Hp) (E : XK) (hr : Room 4 (A.deeper (envOfC "is_move" (defScope s_is_move) s.heap.objs.size f cdv))) :
    PSs (cxOf (L2.CX P w) P w K mg base N_is_move "is_move" (defScope s_is_move) f cdv A outer s H E) (defBody s_is_move) (TSc K (plainS Tb) (WX0 E) (g_is_move)) := by
  have nd : N_is_move.Nodup := by decide
  have hu := hr.units
  unfold g_is_move
  exact (cs_one (c_ret (c_and (c_cmp (c_eq_op hu) (c_callB cc_len (by first | rfl | kernel_rfl) g.z_len (by decide +kernel) (ca_cons (c_var (i := 0) rfl (by first | exact .inl rfl | exact .inr (.inl rfl) | exact .inr (.inr rfl))) ca_nil)) c_int (by first | rfl | kernel_rfl)) (c_and (c_call F_is_order hr (by decide) (by first | rfl | kernel_rfl) tk_cx (ca_cons (c_ix (c_var (i := 0) rfl (by first | exact .inl rfl | exact .inr (.inl rfl) | exact .inr (.inr rfl))) c_int) (ca_cons (c_var (i := 1) rfl (by first | exact .inl rfl | exact .inr (.inl rfl) | exact .inr (.inr rfl))) ca_nil))) (c_one (c_call F_is_number hr (by decide) (by first | rfl | kernel_rfl) tk_cx (ca_cons (c_ix (c_var (i := 0) rfl (by first | exact .inl rfl | exact .inr (.inl rfl) | exact .inr (.inr rfl))) c_int) (ca_cons c_int (ca_cons (c_bin c_sub_op (c_var (i := 2) rfl (by first | exact .inl rfl | exact .inr (.inl rfl) | exact .inr (.inr rfl))) c_int) ca_nil)))))))))
abbrev s_rises : Stmt := top 18
def N_rises : List Str := ["values", "low", "high"]
def g_rises : SD.Env → Mem → SRes := (fRet (fCall gAll (fCons (fLst (fComp (fItB gZip (fCons (fVar 0) (fCons (fSl (fVar 0) (fPart (fC (.int 1))) fNoPart) fNil))) [1, 2] (aTup 2 (aCons (aName 1) (aCons (aName 2) aNil))) (fun _ M => .ok true M) (fBin gLt (fVar 1) (fVar 2)))) fNil)))
def m_rises : List D → Mem → Res D := SD.mOf 3 (g_rises)
theorem b_rises (g : Gx K mg) {f : Addr}  (cdv : Value) (A : Around) (outer : List PySem.Env) (s : Shared) (H : Hp) (E : XK) (hr : Room 0 (A.deeper (envOfC "rises" (defScope s_rises) s.heap.objs.size f cdv))) :
    PSs (cxOf (L2.CX P w) P w K mg base N_rises "rises" (defScope s_rises) f cdv A outer s H E) (defBody s_rises) (TSc K (plainS Tb) (WX0 E) (g_rises)) := by
  have nd : N_rises.Nodup := by decide
  have hu := hr.units
  unfold g_rises
  exact (cs_one (c_ret (c_callB (cc_all rfl) (by first | rfl | kernel_rfl) g.z_all (by decide +kernel) (ca_cons (c_lstN (c_lc rfl nd (own := [("low", 1), ("high", 2)]) (ix := [1, 2]) (ci_zip (by first | rfl | kernel_rfl) g.z_zip (ca_cons (c_var (i := 0) rfl (by first | exact .inl rfl | exact .inr (.inl rfl) | exact .inr (.inr rfl))) (ca_cons (c_sl (c_var (i := 0) rfl (by first | exact .inl rfl | exact .inr (.inl rfl) | exact .inr (.inr rfl))) (co_some c_int) co_none) ca_nil))) (blk_of (by first | rfl | kernel_rfl)) (by decide) (fun _ _ _ _ _ => (cg_tup rfl (cg_cons (cg_name (i := 1) nd rfl (by first | exact .inl rfl | exact .inr rfl) (by first | exact .inl rfl | exact .inr rfl)) (cg_cons (cg_name (i := 2) nd rfl (by first | exact .inl rfl | exact .inr rfl) (by first | exact .inl rfl | exact .inr rfl)) cg_nil)))) (fun _ _ _ _ _ => cts_nil) (fun _ _ _ _ _ => (c_cmp (c_lt_op hu) (c_var (i := 1) rfl (by first | exact .inl rfl | exact .inr (.inl rfl) | exact .inr (.inr rfl))) (c_var (i := 2) rfl (by first | exact .inl rfl | exact .inr (.inl rfl) | exact .inr (.inr rfl))) (by first | rfl | kernel_rfl))))) ca_nil))))
abbrev s_are_orders : Stmt := top 17
def N_are_orders : List Str := ["value", "cards", "order"]
def g_are_orders : SD.Env → Mem → SRes := (fSeq (fIfS (fNotT (fTr (fFn 3 m_is_tuple (fCons (fVar 0) (fCons (fC (.int 1)) (fCons (fC (.int 8)) fNil)))))) (fRet (fC (.bl false)))
  fNext)
  (fRet (fAnd (fCall gAll (fCons (fLst (fComp (fIt (fVar 0)) [2] (aName 2) (fun _ M => .ok true M) (fFn 2 m_is_order (fCons (fVar 2) (fCons (fVar 1) fNil))))) fNil)) (fFn 1 m_rises (fCons (fVar 0) fNil)))))
def m_are_orders : List D → Mem → Res D := SD.mOf 3 (g_are_orders)
theorem b_are_orders (g : Gx K mg) {f : Addr} (F_is_tuple : DefOk P w K mg base Tb 1 "is_tuple" 3 m_is_tuple) (F_is_order : DefOk P w K mg base Tb 4 "is_order" 2 m_is_order) (F_rises : DefOk P w K mg base Tb 1 "rises" 1 m_rises) (cdv : Value) (A : Around) (outer : List PySem.Env) (s : Shared) (H : Hp) (E : XK) (hr : Room 4 (A.deeper (envOfC "are_orders" (defScope s_are_orders) s.heap.objs.size f cdv))) :
    PSs (cxOf (L2.CX P w) P w K mg base N_are_orders "are_orders" (defScope s_are_orders) f cdv A outer s H E) (defBody s_are_orders) (TSc K (plainS Tb) (WX0 E) (g_are_orders)) := by
  have nd : N_are_orders.Nodup := by decide
  have hu := hr.units
  unfold g_are_orders
  exact (cs_cons (c_ifS (ct_not (c_tr (c_call F_is_tuple hr (by decide) (by first | rfl | kernel_rfl) tk_cx (ca_cons (c_var (i := 0) rfl (by first | exact .inl rfl | exact .inr (.inl rfl) | exact .inr (.inr rfl))) (ca_cons c_int (ca_cons c_int ca_nil)))))) (cs_one (c_ret c_bl))
  cs_nil)
  (cs_one (c_ret (c_and (c_callB (cc_all rfl) (by first | rfl | kernel_rfl) g.z_all (by decide +kernel) (ca_cons (c_lstN (c_lc rfl nd (own := [("order", 2)]) (ix := [2]) (ci_seq (c_var (i := 0) rfl (by first | exact .inl rfl | exact .inr (.inl rfl) | exact .inr (.inr rfl)))) (blk_of (by first | rfl | kernel_rfl)) (by decide) (fun _ _ _ _ _ => (cg_name (i := 2) nd rfl (by first | exact .inl rfl | exact .inr rfl) (by first | exact .inl rfl | exact .inr rfl))) (fun _ _ _ _ _ => cts_nil) (fun _ _ _ _ _ => (c_call F_is_order hr (by decide) (by first | rfl | kernel_rfl) takes0 (ca_cons (c_var (i := 2) rfl (by first | exact .inl rfl | exact .inr (.inl rfl) | exact .inr (.inr rfl))) (ca_cons (c_var (i := 1) rfl (by first | exact .inl rfl | exact .inr (.inl rfl) | exact .inr (.inr rfl))) ca_nil)))))) ca_nil)) (c_one (c_call F_rises hr (by decide) (by first | rfl | kernel_rfl) tk_cx (ca_cons (c_var (i := 0) rfl (by first | exact .inl rfl | exact .inr (.inl rfl) | exact .inr (.inr rfl))) ca_nil)))))))
abbrev s_is_shuffle : Stmt := top 37
def N_is_shuffle : List Str := ["node", "cards", "nodes"]
def g_is_shuffle : SD.Env → Mem → SRes := (fRet (fAnd (fBin gEq (fCall gLen (fCons (fVar 0) fNil)) (fC (.int 3))) (fAnd (fFn 2 m_are_orders (fCons (fBin gIx (fVar 0) (fC (.int 1))) (fCons (fVar 1) fNil))) (fFn 3 m_is_number (fCons (fBin gIx (fVar 0) (fC (.int 2))) (fCons (fC (.int 0)) (fCons (fBin gSub (fVar 2) (fC (.int 1))) fNil)))))))
def m_is_shuffle : List D → Mem → Res D := SD.mOf 3 (g_is_shuffle)
theorem b_is_shuffle (g : Gx K mg) {f : Addr} (F_are_orders : DefOk P w K mg base Tb 5 "are_orders" 2 m_are_orders) (F_is_number : DefOk P w K mg base Tb 2 "is_number" 3 m_is_number) (cdv : Value) (A : Around) (outer : List PySem.Env) (s : Shared) (H : Hp) (E : XK) (hr : Room 5 (A.deeper (envOfC "is_shuffle" (defScope s_is_shuffle) s.heap.objs.size f cdv))) :
    PSs (cxOf (L2.CX P w) P w K mg base N_is_shuffle "is_shuffle" (defScope s_is_shuffle) f cdv A outer s H E) (defBody s_is_shuffle) (TSc K (plainS Tb) (WX0 E) (g_is_shuffle)) := by
  have nd : N_is_shuffle.Nodup := by decide
  have hu := hr.units
  unfold g_is_shuffle
  exact (cs_one (c_ret (c_and (c_cmp (c_eq_op hu) (c_callB cc_len (by first | rfl | kernel_rfl) g.z_len (by decide +kernel) (ca_cons (c_var (i := 0) rfl (by first | exact .inl rfl | exact .inr (.inl rfl) | exact .inr (.inr rfl))) ca_nil)) c_int (by first | rfl | kernel_rfl)) (c_and (c_call F_are_orders hr (by decide) (by first | rfl | kernel_rfl) tk_cx (ca_cons (c_ix (c_var (i := 0) rfl (by first | exact .inl rfl | exact .inr (.inl rfl) | exact .inr (.inr rfl))) c_int) (ca_cons (c_var (i := 1) rfl (by first | exact .inl rfl | exact .inr (.inl rfl) | exact .inr (.inr rfl))) ca_nil))) (c_one (c_call F_is_number hr (by decide) (by first | rfl | kernel_rfl) tk_cx (ca_cons (c_ix (c_var (i := 0) rfl (by first | exact .inl rfl | exact .inr (.inl rfl) | exact .inr (.inr rfl))) c_int) (ca_cons c_int (ca_cons (c_bin c_sub_op (c_var (i := 2) rfl (by first | exact .inl rfl | exact .inr (.inl rfl) | exact .inr (.inr rfl))) c_int) ca_nil)))))))))
abbrev s_is_sight_way : Stmt := top 39
def N_is_sight_way : List Str := ["value", "places", "nodes"]
def g_is_sight_way : SD.Env → Mem → SRes := (fRet (fAnd (fFn 3 m_is_tuple (fCons (fVar 0) (fCons (fC (.int 2)) (fCons (fC (.int 2)) fNil)))) (fAnd (fFn 3 m_are_bits (fCons (fBin gIx (fVar 0) (fC (.int 0))) (fCons (fVar 1) (fCons (fVar 1) fNil)))) (fFn 3 m_is_number (fCons (fBin gIx (fVar 0) (fC (.int 1))) (fCons (fC (.int 0)) (fCons (fBin gSub (fVar 2) (fC (.int 1))) fNil)))))))
def m_is_sight_way : List D → Mem → Res D := SD.mOf 3 (g_is_sight_way)
theorem b_is_sight_way (g : Gx K mg) {f : Addr} (F_is_tuple : DefOk P w K mg base Tb 1 "is_tuple" 3 m_is_tuple) (F_are_bits : DefOk P w K mg base Tb 3 "are_bits" 3 m_are_bits) (F_is_number : DefOk P w K mg base Tb 2 "is_number" 3 m_is_number) (cdv : Value) (A : Around) (outer : List PySem.Env) (s : Shared) (H : Hp) (E : XK) (hr : Room 3 (A.deeper (envOfC "is_sight_way" (defScope s_is_sight_way) s.heap.objs.size f cdv))) :
    PSs (cxOf (L2.CX P w) P w K mg base N_is_sight_way "is_sight_way" (defScope s_is_sight_way) f cdv A outer s H E) (defBody s_is_sight_way) (TSc K (plainS Tb) (WX0 E) (g_is_sight_way)) := by
  have nd : N_is_sight_way.Nodup := by decide
  have hu := hr.units
  unfold g_is_sight_way
  exact (cs_one (c_ret (c_and (c_call F_is_tuple hr (by decide) (by first | rfl | kernel_rfl) tk_cx (ca_cons (c_var (i := 0) rfl (by first | exact .inl rfl | exact .inr (.inl rfl) | exact .inr (.inr rfl))) (ca_cons c_int (ca_cons c_int ca_nil)))) (c_and (c_call F_are_bits hr (by decide) (by first | rfl | kernel_rfl) tk_cx (ca_cons (c_ix (c_var (i := 0) rfl (by first | exact .inl rfl | exact .inr (.inl rfl) | exact .inr (.inr rfl))) c_int) (ca_cons (c_var (i := 1) rfl (by first | exact .inl rfl | exact .inr (.inl rfl) | exact .inr (.inr rfl))) (ca_cons (c_var (i := 1) rfl (by first | exact .inl rfl | exact .inr (.inl rfl) | exact .inr (.inr rfl))) ca_nil)))) (c_one (c_call F_is_number hr (by decide) (by first | rfl | kernel_rfl) tk_cx (ca_cons (c_ix (c_var (i := 0) rfl (by first | exact .inl rfl | exact .inr (.inl rfl) | exact .inr (.inr rfl))) c_int) (ca_cons c_int (ca_cons (c_bin c_sub_op (c_var (i := 2) rfl (by first | exact .inl rfl | exact .inr (.inl rfl) | exact .inr (.inr rfl))) c_int) ca_nil)))))))))
abbrev s_is_turn : Stmt := top 38
def N_is_turn : List Str := ["node", "cards", "nodes", "places", "ways", "pair"]
def g_is_turn : SD.Env → Mem → SRes := (fSeq (fIfS (fBl (fBin gNe (fCall gLen (fCons (fVar 0) fNil)) (fC (.int 3)))) (fRet (fC (.bl false)))
  fNext)
  (fSeq (fAsg (fTup (fCons (fBin gIx (fVar 0) (fC (.int 1))) (fCons (fBin gIx (fVar 0) (fC (.int 2))) fNil))) (aTup 2 (aCons (aName 3) (aCons (aName 4) aNil))))
  (fSeq (fIfS (fOrT (fNotT (fTr (fFn 2 m_are_places (fCons (fVar 3) (fCons (fVar 1) fNil))))) (fOrT (fBl (fBin gEq (fCall gLen (fCons (fVar 3) fNil)) (fC (.int 0)))) (fNotT (fTr (fFn 1 m_rises (fCons (fVar 3) fNil)))))) (fRet (fC (.bl false)))
  fNext)
  (fSeq (fIfS (fOrT (fNotT (fTr (fGo (gIsi ["tuple"]) (fVar 4)))) (fBl (fBin gEq (fCall gLen (fCons (fVar 4) fNil)) (fC (.int 0))))) (fRet (fC (.bl false)))
  fNext)
  (fSeq (fIfS (fNotT (fTr (fCall gAll (fCons (fLst (fComp (fIt (fVar 4)) [5] (aName 5) (fun _ M => .ok true M) (fFn 3 m_is_sight_way (fCons (fVar 5) (fCons (fCall gLen (fCons (fVar 3) fNil)) (fCons (fVar 2) fNil)))))) fNil)))) (fRet (fC (.bl false)))
  fNext)
  (fRet (fFn 1 m_rises (fCons (fLst (fComp (fIt (fVar 4)) [5] (aName 5) (fun _ M => .ok true M) (fBin gIx (fVar 5) (fC (.int 0))))) fNil))))))))
def m_is_turn : List D → Mem → Res D := SD.mOf 6 (g_is_turn)
theorem b_is_turn (g : Gx K mg) {f : Addr} (F_are_places : DefOk P w K mg base Tb 3 "are_places" 2 m_are_places) (F_rises : DefOk P w K mg base Tb 1 "rises" 1 m_rises) (F_is_sight_way : DefOk P w K mg base Tb 4 "is_sight_way" 3 m_is_sight_way) (cdv : Value) (A : Around) (outer : List PySem.Env) (s : Shared) (H : Hp) (E : XK) (hr : Room 4 (A.deeper (envOfC "is_turn" (defScope s_is_turn) s.heap.objs.size f cdv))) :
    PSs (cxOf (L2.CX P w) P w K mg base N_is_turn "is_turn" (defScope s_is_turn) f cdv A outer s H E) (defBody s_is_turn) (TSc K (plainS Tb) (WX0 E) (g_is_turn)) := by
  have nd : N_is_turn.Nodup := by decide
  have hu := hr.units
  unfold g_is_turn
  exact (cs_cons (c_ifS (ct_cmp (c_ne_op hu) (c_callB cc_len (by first | rfl | kernel_rfl) g.z_len (by decide +kernel) (ca_cons (c_var (i := 0) rfl (by first | exact .inl rfl | exact .inr (.inl rfl) | exact .inr (.inr rfl))) ca_nil)) c_int (by first | rfl | kernel_rfl)) (cs_one (c_ret c_bl))
  cs_nil)
  (cs_cons (c_asg (c_tup (ca_cons (c_ix (c_var (i := 0) rfl (by first | exact .inl rfl | exact .inr (.inl rfl) | exact .inr (.inr rfl))) c_int) (ca_cons (c_ix (c_var (i := 0) rfl (by first | exact .inl rfl | exact .inr (.inl rfl) | exact .inr (.inr rfl))) c_int) ca_nil))) (cg_tup rfl (cg_cons (cg_name (i := 3) nd rfl (by first | exact .inl rfl | exact .inr rfl) (by first | exact .inl rfl | exact .inr rfl)) (cg_cons (cg_name (i := 4) nd rfl (by first | exact .inl rfl | exact .inr rfl) (by first | exact .inl rfl | exact .inr rfl)) cg_nil))) (by first | rfl | kernel_rfl) (by first | rfl | kernel_rfl) (by first | rfl | kernel_rfl))
  (cs_cons (c_ifS (PW.pt (cw_or (ct_not (c_tr (c_call F_are_places hr (by decide) (by first | rfl | kernel_rfl) tk_cx (ca_cons (c_var (i := 3) rfl (by first | exact .inl rfl | exact .inr (.inl rfl) | exact .inr (.inr rfl))) (ca_cons (c_var (i := 1) rfl (by first | exact .inl rfl | exact .inr (.inl rfl) | exact .inr (.inr rfl))) ca_nil))))) (cw_or (ct_cmp (c_eq_op hu) (c_callB cc_len (by first | rfl | kernel_rfl) g.z_len (by decide +kernel) (ca_cons (c_var (i := 3) rfl (by first | exact .inl rfl | exact .inr (.inl rfl) | exact .inr (.inr rfl))) ca_nil)) c_int (by first | rfl | kernel_rfl)) (cw_or1 (ct_not (c_tr (c_call F_rises hr (by decide) (by first | rfl | kernel_rfl) tk_cx (ca_cons (c_var (i := 3) rfl (by first | exact .inl rfl | exact .inr (.inl rfl) | exact .inr (.inr rfl))) ca_nil)))))))) (cs_one (c_ret c_bl))
  cs_nil)
  (cs_cons (c_ifS (PW.pt (cw_or (ct_not (c_tr (c_isi good_tuple (by first | rfl | kernel_rfl) g.z_isinstance (by first | rfl | kernel_rfl) g.z_tuple (by decide +kernel) (c_var (i := 4) rfl (by first | exact .inl rfl | exact .inr (.inl rfl) | exact .inr (.inr rfl)))))) (cw_or1 (ct_cmp (c_eq_op hu) (c_callB cc_len (by first | rfl | kernel_rfl) g.z_len (by decide +kernel) (ca_cons (c_var (i := 4) rfl (by first | exact .inl rfl | exact .inr (.inl rfl) | exact .inr (.inr rfl))) ca_nil)) c_int (by first | rfl | kernel_rfl))))) (cs_one (c_ret c_bl))
  cs_nil)
  (cs_cons (c_ifS (ct_not (c_tr (c_callB (cc_all rfl) (by first | rfl | kernel_rfl) g.z_all (by decide +kernel) (ca_cons (c_lstN (c_lc rfl nd (own := [("pair", 5)]) (ix := [5]) (ci_seq (c_var (i := 4) rfl (by first | exact .inl rfl | exact .inr (.inl rfl) | exact .inr (.inr rfl)))) (blk_of (by first | rfl | kernel_rfl)) (by decide) (fun _ _ _ _ _ => (cg_name (i := 5) nd rfl (by first | exact .inl rfl | exact .inr rfl) (by first | exact .inl rfl | exact .inr rfl))) (fun _ _ _ _ _ => cts_nil) (fun _ _ _ _ _ => (c_call F_is_sight_way hr (by decide) (by first | rfl | kernel_rfl) takes0 (ca_cons (c_var (i := 5) rfl (by first | exact .inl rfl | exact .inr (.inl rfl) | exact .inr (.inr rfl))) (ca_cons (c_callB cc_len (by first | rfl | kernel_rfl) g.z_len (by decide +kernel) (ca_cons (c_var (i := 3) rfl (by first | exact .inl rfl | exact .inr (.inl rfl) | exact .inr (.inr rfl))) ca_nil)) (ca_cons (c_var (i := 2) rfl (by first | exact .inl rfl | exact .inr (.inl rfl) | exact .inr (.inr rfl))) ca_nil))))))) ca_nil)))) (cs_one (c_ret c_bl))
  cs_nil)
  (cs_one (c_ret (c_call F_rises hr (by decide) (by first | rfl | kernel_rfl) tk_cx (ca_cons (c_lstN (c_lc rfl nd (own := [("pair", 5)]) (ix := [5]) (ci_seq (c_var (i := 4) rfl (by first | exact .inl rfl | exact .inr (.inl rfl) | exact .inr (.inr rfl)))) (blk_of (by first | rfl | kernel_rfl)) (by decide) (fun _ _ _ _ _ => (cg_name (i := 5) nd rfl (by first | exact .inl rfl | exact .inr rfl) (by first | exact .inl rfl | exact .inr rfl))) (fun _ _ _ _ _ => cts_nil) (fun _ _ _ _ _ => (c_ix (c_var (i := 5) rfl (by first | exact .inl rfl | exact .inr (.inl rfl) | exact .inr (.inr rfl))) c_int)))) ca_nil)))))))))
abbrev s_is_lay : Stmt := top 40
def N_is_lay : List Str := ["node", "cards", "pair", "place"]
def g_is_lay : SD.Env → Mem → SRes := (fSeq (fIfS (fOrT (fBl (fBin gNe (fCall gLen (fCons (fVar 0) fNil)) (fC (.int 2)))) (fNotT (fTr (fFn 3 m_is_tuple (fCons (fBin gIx (fVar 0) (fC (.int 1))) (fCons (fC (.int 1)) (fCons (fC (.int 2)) fNil))))))) (fRet (fC (.bl false)))
  fNext)
  (fSeq (fIfS (fNotT (fTr (fCall gAll (fCons (fLst (fComp (fIt (fBin gIx (fVar 0) (fC (.int 1)))) [2] (aName 2) (fun _ M => .ok true M) (fFn 3 m_is_tuple (fCons (fVar 2) (fCons (fC (.int 2)) (fCons (fC (.int 2)) fNil)))))) fNil)))) (fRet (fC (.bl false)))
  fNext)
  (fRet (fFn 2 m_are_places (fCons (fCall gTuple (fCons (fLst (fComp2 (fIt (fBin gIx (fVar 0) (fC (.int 1)))) [2, 3] (aName 2) (fun _ M => .ok true M) (fIt (fVar 2)) [3] (aName 3) (fun _ M => .ok true M) (fVar 3))) fNil)) (fCons (fVar 1) fNil))))))
def m_is_lay : List D → Mem → Res D := SD.mOf 4 (g_is_lay)
theorem b_is_lay (g : Gx K mg) {f : Addr} (F_is_tuple : DefOk P w K mg base Tb 1 "is_tuple" 3 m_is_tuple) (F_are_places : DefOk P w K mg base Tb 3 "are_places" 2 m_are_places) (cdv : Value) (A : Around) (outer : List PySem.Env) (s : Shared) (H : Hp) (E : XK) (hr : Room 3 (A.deeper (envOfC "is_lay" (defScope s_is_lay) s.heap.objs.size f cdv))) :
    PSs (cxOf (L2.CX P w) P w K mg base N_is_lay "is_lay" (defScope s_is_lay) f cdv A outer s H E) (defBody s_is_lay) (TSc K (plainS Tb) (WX0 E) (g_is_lay)) := by
  have nd : N_is_lay.Nodup := by decide
  have hu := hr.units
  unfold g_is_lay
  exact (cs_cons (c_ifS (PW.pt (cw_or (ct_cmp (c_ne_op hu) (c_callB cc_len (by first | rfl | kernel_rfl) g.z_len (by decide +kernel) (ca_cons (c_var (i := 0) rfl (by first | exact .inl rfl | exact .inr (.inl rfl) | exact .inr (.inr rfl))) ca_nil)) c_int (by first | rfl | kernel_rfl)) (cw_or1 (ct_not (c_tr (c_call F_is_tuple hr (by decide) (by first | rfl | kernel_rfl) tk_cx (ca_cons (c_ix (c_var (i := 0) rfl (by first | exact .inl rfl | exact .inr (.inl rfl) | exact .inr (.inr rfl))) c_int) (ca_cons c_int (ca_cons c_int ca_nil))))))))) (cs_one (c_ret c_bl))
  cs_nil)
  (cs_cons (c_ifS (ct_not (c_tr (c_callB (cc_all rfl) (by first | rfl | kernel_rfl) g.z_all (by decide +kernel) (ca_cons (c_lstN (c_lc rfl nd (own := [("pair", 2)]) (ix := [2]) (ci_seq (c_ix (c_var (i := 0) rfl (by first | exact .inl rfl | exact .inr (.inl rfl) | exact .inr (.inr rfl))) c_int)) (blk_of (by first | rfl | kernel_rfl)) (by decide) (fun _ _ _ _ _ => (cg_name (i := 2) nd rfl (by first | exact .inl rfl | exact .inr rfl) (by first | exact .inl rfl | exact .inr rfl))) (fun _ _ _ _ _ => cts_nil) (fun _ _ _ _ _ => (c_call F_is_tuple hr (by decide) (by first | rfl | kernel_rfl) takes0 (ca_cons (c_var (i := 2) rfl (by first | exact .inl rfl | exact .inr (.inl rfl) | exact .inr (.inr rfl))) (ca_cons c_int (ca_cons c_int ca_nil))))))) ca_nil)))) (cs_one (c_ret c_bl))
  cs_nil)
  (cs_one (c_ret (c_call F_are_places hr (by decide) (by first | rfl | kernel_rfl) tk_cx (ca_cons (c_callT cc_tuple (by first | rfl | kernel_rfl) g.z_tuple (by decide +kernel) (ca_cons (c_lstN (c_lc2 rfl nd (own := [("pair", 2), ("place", 3)]) (ix := [2]) (ix1 := [3]) (vs1 := [3]) (ci_seq (c_ix (c_var (i := 0) rfl (by first | exact .inl rfl | exact .inr (.inl rfl) | exact .inr (.inr rfl))) c_int)) (blk_of (by first | rfl | kernel_rfl)) (by decide) (by decide) (by decide) (fun _ _ _ _ _ => (cg_name (i := 2) nd rfl (by first | exact .inl rfl | exact .inr rfl) (by first | exact .inl rfl | exact .inr rfl))) (fun _ _ _ _ _ => cts_nil) (fun _ _ _ _ _ => (ci_seq (c_var (i := 2) rfl (by first | exact .inl rfl | exact .inr (.inl rfl) | exact .inr (.inr rfl))))) (fun _ _ _ _ _ => (cg_name (i := 3) nd rfl (by first | exact .inl rfl | exact .inr rfl) (by first | exact .inl rfl | exact .inr rfl))) (fun _ _ _ _ _ => cts_nil) (fun _ _ _ _ _ => (c_var (i := 3) rfl (by first | exact .inl rfl | exact .inr (.inl rfl) | exact .inr (.inr rfl)))))) ca_nil)) (ca_cons (c_var (i := 1) rfl (by first | exact .inl rfl | exact .inr (.inl rfl) | exact .inr (.inr rfl))) ca_nil)))))))
abbrev s_is_node : Stmt := top 35
def N_is_node : List Str := ["value", "cards", "nodes"]
def g_is_node : SD.Env → Mem → SRes := (fSeq (fIfS (fOrT (fNotT (fTr (fFn 3 m_is_tuple (fCons (fVar 0) (fCons (fC (.int 2)) (fCons (fC (.int 3)) fNil)))))) (fNotT (fTr (fGo (gIsi ["str"]) (fBin gIx (fVar 0) (fC (.int 0))))))) (fRet (fC (.bl false)))
  fNext)
  (fSeq (fIfS (fBl (fBin gEq (fBin gIx (fVar 0) (fC (.int 0))) (fC (.str "move")))) (fRet (fFn 3 m_is_move (fCons (fVar 0) (fCons (fVar 1) (fCons (fVar 2) fNil)))))
  fNext)
  (fSeq (fIfS (fBl (fBin gEq (fBin gIx (fVar 0) (fC (.int 0))) (fC (.str "shuffle")))) (fRet (fFn 3 m_is_shuffle (fCons (fVar 0) (fCons (fVar 1) (fCons (fVar 2) fNil)))))
  fNext)
  (fSeq (fIfS (fBl (fBin gEq (fBin gIx (fVar 0) (fC (.int 0))) (fC (.str "turn")))) (fRet (fFn 3 m_is_turn (fCons (fVar 0) (fCons (fVar 1) (fCons (fVar 2) fNil)))))
  fNext)
  (fSeq (fIfS (fBl (fBin gEq (fBin gIx (fVar 0) (fC (.int 0))) (fC (.str "lay")))) (fRet (fFn 2 m_is_lay (fCons (fVar 0) (fCons (fVar 1) fNil))))
  fNext)
  (fRet (fAnd (fBin gEq (fBin gIx (fVar 0) (fC (.int 0))) (fC (.str "tell"))) (fAnd (fBin gEq (fCall gLen (fCons (fVar 0) fNil)) (fC (.int 2))) (fFn 3 m_are_bits (fCons (fBin gIx (fVar 0) (fC (.int 1))) (fCons (fC (.int 1)) (fCons (fC (.int 2)) fNil))))))))))))
def m_is_node : List D → Mem → Res D := SD.mOf 3 (g_is_node)
theorem b_is_node (g : Gx K mg) {f : Addr} (F_is_tuple : DefOk P w K mg base Tb 1 "is_tuple" 3 m_is_tuple) (F_is_move : DefOk P w K mg base Tb 5 "is_move" 3 m_is_move) (F_is_shuffle : DefOk P w K mg base Tb 6 "is_shuffle" 3 m_is_shuffle) (F_is_turn : DefOk P w K mg base Tb 5 "is_turn" 3 m_is_turn) (F_is_lay : DefOk P w K mg base Tb 4 "is_lay" 2 m_is_lay) (F_are_bits : DefOk P w K mg base Tb 3 "are_bits" 3 m_are_bits) (cdv : Value) (A : Around) (outer : List PySem.Env) (s : Shared) (H : Hp) (E : XK) (hr : Room 6 (A.deeper (envOfC "is_node" (defScope s_is_node) s.heap.objs.size f cdv))) :
    PSs (cxOf (L2.CX P w) P w K mg base N_is_node "is_node" (defScope s_is_node) f cdv A outer s H E) (defBody s_is_node) (TSc K (plainS Tb) (WX0 E) (g_is_node)) := by
  have nd : N_is_node.Nodup := by decide
  have hu := hr.units
  unfold g_is_node
  exact (cs_cons (c_ifS (PW.pt (cw_or (ct_not (c_tr (c_call F_is_tuple hr (by decide) (by first | rfl | kernel_rfl) tk_cx (ca_cons (c_var (i := 0) rfl (by first | exact .inl rfl | exact .inr (.inl rfl) | exact .inr (.inr rfl))) (ca_cons c_int (ca_cons c_int ca_nil)))))) (cw_or1 (ct_not (c_tr (c_isi good_str (by first | rfl | kernel_rfl) g.z_isinstance (by first | rfl | kernel_rfl) g.z_str (by decide +kernel) (c_ix (c_var (i := 0) rfl (by first | exact .inl rfl | exact .inr (.inl rfl) | exact .inr (.inr rfl))) c_int))))))) (cs_one (c_ret c_bl))
  cs_nil)
  (cs_cons (c_ifS (ct_cmp (c_eq_op hu) (c_ix (c_var (i := 0) rfl (by first | exact .inl rfl | exact .inr (.inl rfl) | exact .inr (.inr rfl))) c_int) c_str (by first | rfl | kernel_rfl)) (cs_one (c_ret (c_call F_is_move hr (by decide) (by first | rfl | kernel_rfl) tk_cx (ca_cons (c_var (i := 0) rfl (by first | exact .inl rfl | exact .inr (.inl rfl) | exact .inr (.inr rfl))) (ca_cons (c_var (i := 1) rfl (by first | exact .inl rfl | exact .inr (.inl rfl) | exact .inr (.inr rfl))) (ca_cons (c_var (i := 2) rfl (by first | exact .inl rfl | exact .inr (.inl rfl) | exact .inr (.inr rfl))) ca_nil))))))
  cs_nil)
  (cs_cons (c_ifS (ct_cmp (c_eq_op hu) (c_ix (c_var (i := 0) rfl (by first | exact .inl rfl | exact .inr (.inl rfl) | exact .inr (.inr rfl))) c_int) c_str (by first | rfl | kernel_rfl)) (cs_one (c_ret (c_call F_is_shuffle hr (by decide) (by first | rfl | kernel_rfl) tk_cx (ca_cons (c_var (i := 0) rfl (by first | exact .inl rfl | exact .inr (.inl rfl) | exact .inr (.inr rfl))) (ca_cons (c_var (i := 1) rfl (by first | exact .inl rfl | exact .inr (.inl rfl) | exact .inr (.inr rfl))) (ca_cons (c_var (i := 2) rfl (by first | exact .inl rfl | exact .inr (.inl rfl) | exact .inr (.inr rfl))) ca_nil))))))
  cs_nil)
  (cs_cons (c_ifS (ct_cmp (c_eq_op hu) (c_ix (c_var (i := 0) rfl (by first | exact .inl rfl | exact .inr (.inl rfl) | exact .inr (.inr rfl))) c_int) c_str (by first | rfl | kernel_rfl)) (cs_one (c_ret (c_call F_is_turn hr (by decide) (by first | rfl | kernel_rfl) tk_cx (ca_cons (c_var (i := 0) rfl (by first | exact .inl rfl | exact .inr (.inl rfl) | exact .inr (.inr rfl))) (ca_cons (c_var (i := 1) rfl (by first | exact .inl rfl | exact .inr (.inl rfl) | exact .inr (.inr rfl))) (ca_cons (c_var (i := 2) rfl (by first | exact .inl rfl | exact .inr (.inl rfl) | exact .inr (.inr rfl))) ca_nil))))))
  cs_nil)
  (cs_cons (c_ifS (ct_cmp (c_eq_op hu) (c_ix (c_var (i := 0) rfl (by first | exact .inl rfl | exact .inr (.inl rfl) | exact .inr (.inr rfl))) c_int) c_str (by first | rfl | kernel_rfl)) (cs_one (c_ret (c_call F_is_lay hr (by decide) (by first | rfl | kernel_rfl) tk_cx (ca_cons (c_var (i := 0) rfl (by first | exact .inl rfl | exact .inr (.inl rfl) | exact .inr (.inr rfl))) (ca_cons (c_var (i := 1) rfl (by first | exact .inl rfl | exact .inr (.inl rfl) | exact .inr (.inr rfl))) ca_nil)))))
  cs_nil)
  (cs_one (c_ret (c_and (c_cmp (c_eq_op hu) (c_ix (c_var (i := 0) rfl (by first | exact .inl rfl | exact .inr (.inl rfl) | exact .inr (.inr rfl))) c_int) c_str (by first | rfl | kernel_rfl)) (c_and (c_cmp (c_eq_op hu) (c_callB cc_len (by first | rfl | kernel_rfl) g.z_len (by decide +kernel) (ca_cons (c_var (i := 0) rfl (by first | exact .inl rfl | exact .inr (.inl rfl) | exact .inr (.inr rfl))) ca_nil)) c_int (by first | rfl | kernel_rfl)) (c_one (c_call F_are_bits hr (by decide) (by first | rfl | kernel_rfl) tk_cx (ca_cons (c_ix (c_var (i := 0) rfl (by first | exact .inl rfl | exact .inr (.inl rfl) | exact .inr (.inr rfl))) c_int) (ca_cons c_int (ca_cons c_int ca_nil))))))))))))))
abbrev s_is_end : Stmt := top 31
def N_is_end : List Str := ["node"]
def g_is_end : SD.Env → Mem → SRes := (fRet (fBin (gIn false) (fBin gIx (fVar 0) (fC (.int 0))) (fTup (fCons (fC (.str "lay")) (fCons (fC (.str "tell")) fNil)))))
def m_is_end : List D → Mem → Res D := SD.mOf 1 (g_is_end)
theorem b_is_end (g : Gx K mg) {f : Addr}  (cdv : Value) (A : Around) (outer : List PySem.Env) (s : Shared) (H : Hp) (E : XK) (hr : Room 0 (A.deeper (envOfC "is_end" (defScope s_is_end) s.heap.objs.size f cdv))) :
    PSs (cxOf (L2.CX P w) P w K mg base N_is_end "is_end" (defScope s_is_end) f cdv A outer s H E) (defBody s_is_end) (TSc K (plainS Tb) (WX0 E) (g_is_end)) := by
  have nd : N_is_end.Nodup := by decide
  have hu := hr.units
  unfold g_is_end
  exact (cs_one (c_ret (c_cmp c_in_op (c_ix (c_var (i := 0) rfl (by first | exact .inl rfl | exact .inr (.inl rfl) | exact .inr (.inr rfl))) c_int) (c_tup (ca_cons c_str (ca_cons c_str ca_nil))) (by first | rfl | kernel_rfl))))
abbrev s_way_fault : Stmt := top 33
def N_way_fault : List Str := ["value", "bits", "helps", "nodes", "word", "cards", "number", "node"]
def g_way_fault : SD.Env → Mem → SRes := (fSeq (fIfS (fNotT (fTr (fFn 3 m_is_tuple (fCons (fVar 0) (fCons (fC (.int 3)) (fCons (fC (.int 3)) fNil)))))) (fRet (fTup (fCons (fC (.str "form")) (fCons (fC .non) fNil))))
  fNext)
  (fSeq (fAsg (fVar 0) (aTup 3 (aCons (aName 1) (aCons (aName 2) (aCons (aName 3) aNil)))))
  (fSeq (fAsg (fFn 2 m_head_fault (fCons (fVar 1) (fCons (fVar 2) fNil))) (aName 4))
  (fSeq (fIfS (fBl (fBin gIsNot (fVar 4) (fC .non))) (fRet (fTup (fCons (fVar 4) (fCons (fC .non) fNil))))
  fNext)
  (fSeq (fIfS (fNotT (fTr (fFn 3 m_is_tuple (fCons (fVar 3) (fCons (fC (.int 1)) (fCons (fC (.int 24)) fNil)))))) (fRet (fTup (fCons (fC (.str "nodes")) (fCons (fC .non) fNil))))
  fNext)
  (fSeq (fAsg (fBin gAdd (fBin gMul (fC (.int 2)) (fVar 1)) (fCall gLen (fCons (fVar 2) fNil))) (aName 5))
  (fSeq (fFor (fItB gEn (fCons (fVar 3) fNil)) (aTup 2 (aCons (aName 6) (aCons (aName 7) aNil))) (fIfS (fNotT (fTr (fFn 3 m_is_node (fCons (fVar 7) (fCons (fVar 5) (fCons (fCall gLen (fCons (fVar 3) fNil)) fNil)))))) (fRet (fTup (fCons (fC (.str "node")) (fCons (fVar 6) fNil))))
  fNext))
  (fSeq (fIfS (fBl (fBin gGt (fLenSetC (fComp (fIt (fVar 3)) [7] (aName 7) (fTr (fFn 1 m_is_end (fCons (fVar 7) fNil))) (fTup (fCons (fBin gIx (fVar 7) (fC (.int 0))) (fCons (fCall gLen (fCons (fBin gIx (fVar 7) (fC (.int 1))) fNil)) fNil))))) (fC (.int 1)))) (fRet (fTup (fCons (fC (.str "ends")) (fCons (fC .non) fNil))))
  fNext)
  (fRet (fC .non))))))))))
def m_way_fault : List D → Mem → Res D := SD.mOf 8 (g_way_fault)
theorem b_way_fault (g : Gx K mg) {f : Addr} (F_is_tuple : DefOk P w K mg base Tb 1 "is_tuple" 3 m_is_tuple) (F_head_fault : DefOk P w K mg base Tb 4 "head_fault" 2 m_head_fault) (F_is_node : DefOk P w K mg base Tb 7 "is_node" 3 m_is_node) (F_is_end : DefOk P w K mg base Tb 1 "is_end" 1 m_is_end) (cdv : Value) (A : Around) (outer : List PySem.Env) (s : Shared) (H : Hp) (E : XK) (hr : Room 7 (A.deeper (envOfC "way_fault" (defScope s_way_fault) s.heap.objs.size f cdv))) :
    PSs (cxOf (L2.CX P w) P w K mg base N_way_fault "way_fault" (defScope s_way_fault) f cdv A outer s H E) (defBody s_way_fault) (TSc K (plainS Tb) (WX0 E) (g_way_fault)) := by
  have nd : N_way_fault.Nodup := by decide
  have hu := hr.units
  unfold g_way_fault
  exact (cs_cons (c_ifS (ct_not (c_tr (c_call F_is_tuple hr (by decide) (by first | rfl | kernel_rfl) tk_cx (ca_cons (c_var (i := 0) rfl (by first | exact .inl rfl | exact .inr (.inl rfl) | exact .inr (.inr rfl))) (ca_cons c_int (ca_cons c_int ca_nil)))))) (cs_one (c_ret (c_tup (ca_cons c_str (ca_cons c_non ca_nil)))))
  cs_nil)
  (cs_cons (c_asg (c_var (i := 0) rfl (by first | exact .inl rfl | exact .inr (.inl rfl) | exact .inr (.inr rfl))) (cg_tup rfl (cg_cons (cg_name (i := 1) nd rfl (by first | exact .inl rfl | exact .inr rfl) (by first | exact .inl rfl | exact .inr rfl)) (cg_cons (cg_name (i := 2) nd rfl (by first | exact .inl rfl | exact .inr rfl) (by first | exact .inl rfl | exact .inr rfl)) (cg_cons (cg_name (i := 3) nd rfl (by first | exact .inl rfl | exact .inr rfl) (by first | exact .inl rfl | exact .inr rfl)) cg_nil)))) (by first | rfl | kernel_rfl) (by first | rfl | kernel_rfl) (by first | rfl | kernel_rfl))
  (cs_cons (c_set (i := 4) nd rfl (by first | exact .inl rfl | exact .inr rfl) (c_call F_head_fault hr (by decide) (by first | rfl | kernel_rfl) tk_cx (ca_cons (c_var (i := 1) rfl (by first | exact .inl rfl | exact .inr (.inl rfl) | exact .inr (.inr rfl))) (ca_cons (c_var (i := 2) rfl (by first | exact .inl rfl | exact .inr (.inl rfl) | exact .inr (.inr rfl))) ca_nil))) (hf := by first | exact .inl rfl | exact .inr rfl))
  (cs_cons (c_ifS (ct_cmp c_isnot_op (c_var (i := 4) rfl (by first | exact .inl rfl | exact .inr (.inl rfl) | exact .inr (.inr rfl))) c_non (by first | rfl | kernel_rfl)) (cs_one (c_ret (c_tup (ca_cons (c_var (i := 4) rfl (by first | exact .inl rfl | exact .inr (.inl rfl) | exact .inr (.inr rfl))) (ca_cons c_non ca_nil)))))
  cs_nil)
  (cs_cons (c_ifS (ct_not (c_tr (c_call F_is_tuple hr (by decide) (by first | rfl | kernel_rfl) tk_cx (ca_cons (c_var (i := 3) rfl (by first | exact .inl rfl | exact .inr (.inl rfl) | exact .inr (.inr rfl))) (ca_cons c_int (ca_cons (c_glob (by first | rfl | kernel_rfl) g.c_MOST_NODES) ca_nil)))))) (cs_one (c_ret (c_tup (ca_cons c_str (ca_cons c_non ca_nil)))))
  cs_nil)
  (cs_cons (c_set (i := 5) nd rfl (by first | exact .inl rfl | exact .inr rfl) (c_bin c_add_op (c_bin c_mul_op c_int (c_var (i := 1) rfl (by first | exact .inl rfl | exact .inr (.inl rfl) | exact .inr (.inr rfl)))) (c_callB cc_len (by first | rfl | kernel_rfl) g.z_len (by decide +kernel) (ca_cons (c_var (i := 2) rfl (by first | exact .inl rfl | exact .inr (.inl rfl) | exact .inr (.inr rfl))) ca_nil))) (hf := by first | exact .inl rfl | exact .inr rfl))
  (cs_cons (c_for own_cx rfl (ci_enum (by first | rfl | kernel_rfl) g.z_enumerate (ca_cons (c_var (i := 3) rfl (by first | exact .inl rfl | exact .inr (.inl rfl) | exact .inr (.inr rfl))) ca_nil)) (cg_tup rfl (cg_cons (cg_name (i := 6) nd rfl (by first | exact .inl rfl | exact .inr rfl) (by first | exact .inl rfl | exact .inr rfl)) (cg_cons (cg_name (i := 7) nd rfl (by first | exact .inl rfl | exact .inr rfl) (by first | exact .inl rfl | exact .inr rfl)) cg_nil))) (cs_one (c_ifS (ct_not (c_tr (c_call F_is_node hr (by decide) (by first | rfl | kernel_rfl) tk_cx (ca_cons (c_var (i := 7) rfl (by first | exact .inl rfl | exact .inr (.inl rfl) | exact .inr (.inr rfl))) (ca_cons (c_var (i := 5) rfl (by first | exact .inl rfl | exact .inr (.inl rfl) | exact .inr (.inr rfl))) (ca_cons (c_callB cc_len (by first | rfl | kernel_rfl) g.z_len (by decide +kernel) (ca_cons (c_var (i := 3) rfl (by first | exact .inl rfl | exact .inr (.inl rfl) | exact .inr (.inr rfl))) ca_nil)) ca_nil)))))) (cs_one (c_ret (c_tup (ca_cons c_str (ca_cons (c_var (i := 6) rfl (by first | exact .inl rfl | exact .inr (.inl rfl) | exact .inr (.inr rfl))) ca_nil)))))
  cs_nil)))
  (cs_cons (c_ifS (ct_cmp (c_gt_op hu) (c_lenSetC rfl hu nd (by first | rfl | kernel_rfl) g.z_len (own := [("node", 7)]) (ix := [7]) (ci_seq (c_var (i := 3) rfl (by first | exact .inl rfl | exact .inr (.inl rfl) | exact .inr (.inr rfl)))) (blk_of (by first | rfl | kernel_rfl)) (by decide) (fun _ _ _ _ _ => (cg_name (i := 7) nd rfl (by first | exact .inl rfl | exact .inr rfl) (by first | exact .inl rfl | exact .inr rfl))) (fun _ _ _ _ _ => (cts_one (c_tr (c_call F_is_end hr (by decide) (by first | rfl | kernel_rfl) takes0 (ca_cons (c_var (i := 7) rfl (by first | exact .inl rfl | exact .inr (.inl rfl) | exact .inr (.inr rfl))) ca_nil))))) (fun _ _ _ _ _ => (c_tup (ca_cons (c_ix (c_var (i := 7) rfl (by first | exact .inl rfl | exact .inr (.inl rfl) | exact .inr (.inr rfl))) c_int) (ca_cons (c_callB cc_len (by first | rfl | kernel_rfl) g.z_len (by decide +kernel) (ca_cons (c_ix (c_var (i := 7) rfl (by first | exact .inl rfl | exact .inr (.inl rfl) | exact .inr (.inr rfl))) c_int) ca_nil)) ca_nil))))) c_int (by first | rfl | kernel_rfl)) (cs_one (c_ret (c_tup (ca_cons c_str (ca_cons c_non ca_nil)))))
  cs_nil)
  (cs_one (c_ret c_non))))))))))
abbrev s_is_way : Stmt := top 23
def N_is_way : List Str := ["value"]
def g_is_way : SD.Env → Mem → SRes := (fRet (fBin gIs (fFn 1 m_way_fault (fCons (fVar 0) fNil)) (fC .non)))
def m_is_way : List D → Mem → Res D := SD.mOf 1 (g_is_way)
theorem b_is_way (g : Gx K mg) {f : Addr} (F_way_fault : DefOk P w K mg base Tb 8 "way_fault" 1 m_way_fault) (cdv : Value) (A : Around) (outer : List PySem.Env) (s : Shared) (H : Hp) (E : XK) (hr : Room 8 (A.deeper (envOfC "is_way" (defScope s_is_way) s.heap.objs.size f cdv))) :
    PSs (cxOf (L2.CX P w) P w K mg base N_is_way "is_way" (defScope s_is_way) f cdv A outer s H E) (defBody s_is_way) (TSc K (plainS Tb) (WX0 E) (g_is_way)) := by
  have nd : N_is_way.Nodup := by decide
  have hu := hr.units
  unfold g_is_way
  exact (cs_one (c_ret (c_cmp c_is_op (c_call F_way_fault hr (by decide) (by first | rfl | kernel_rfl) tk_cx (ca_cons (c_var (i := 0) rfl (by first | exact .inl rfl | exact .inr (.inl rfl) | exact .inr (.inr rfl))) ca_nil)) c_non (by first | rfl | kernel_rfl))))
abbrev s_check_way : Stmt := top 26
def N_check_way : List Str := ["value", "fault"]
def g_check_way : SD.Env → Mem → SRes := (fSeq (fAsg (fFn 1 m_way_fault (fCons (fVar 0) fNil)) (aName 1))
  (fIfS (fBl (fBin gIsNot (fVar 1) (fC .non))) (fRaise "BadWay" ["word", "node"] (fCons (fBin gIx (fVar 1) (fC (.int 0))) (fCons (fBin gIx (fVar 1) (fC (.int 1))) fNil)))
  fNext))
def m_check_way : List D → Mem → Res D := SD.mOf 2 (g_check_way)
theorem b_check_way (g : Gx K mg) {f : Addr} (F_way_fault : DefOk P w K mg base Tb 8 "way_fault" 1 m_way_fault) (I_BadWay : IniOk P w K mg base 1 "BadWay" ["word", "node"]) (cdv : Value) (A : Around) (outer : List PySem.Env) (s : Shared) (H : Hp) (E : XK) (hr : Room 8 (A.deeper (envOfC "check_way" (defScope s_check_way) s.heap.objs.size f cdv))) :
    PSs (cxOf (L2.CX P w) P w K mg base N_check_way "check_way" (defScope s_check_way) f cdv A outer s H E) (defBody s_check_way) (TSc K (plainS Tb) (WX0 E) (g_check_way)) := by
  have nd : N_check_way.Nodup := by decide
  have hu := hr.units
  unfold g_check_way
  exact (cs_cons (c_set (i := 1) nd rfl (by first | exact .inl rfl | exact .inr rfl) (c_call F_way_fault hr (by decide) (by first | rfl | kernel_rfl) tk_cx (ca_cons (c_var (i := 0) rfl (by first | exact .inl rfl | exact .inr (.inl rfl) | exact .inr (.inr rfl))) ca_nil)) (hf := by first | exact .inl rfl | exact .inr rfl))
  (cs_one (c_ifS (ct_cmp c_isnot_op (c_var (i := 1) rfl (by first | exact .inl rfl | exact .inr (.inl rfl) | exact .inr (.inr rfl))) c_non (by first | rfl | kernel_rfl)) (cs_one (c_raiseI I_BadWay rfl tk_cx hr (by decide) (by first | rfl | kernel_rfl) (ca_cons (c_ix (c_var (i := 1) rfl (by first | exact .inl rfl | exact .inr (.inl rfl) | exact .inr (.inr rfl))) c_int) (ca_cons (c_ix (c_var (i := 1) rfl (by first | exact .inl rfl | exact .inr (.inl rfl) | exact .inr (.inr rfl))) c_int) ca_nil))))
  cs_nil)))
abbrev s_inputs : Stmt := top 24
def N_inputs : List Str := ["way"]
def g_inputs : SD.Env → Mem → SRes := (fSeq (fExpr (fFn 1 m_check_way (fCons (fVar 0) fNil)))
  (fRet fStuck))
def m_inputs : List D → Mem → Res D := SD.mOf 1 (g_inputs)
theorem b_inputs (g : Gx K mg) {f : Addr} (F_check_way : DefOk P w K mg base Tb 9 "check_way" 1 m_check_way) (cdv : Value) (A : Around) (outer : List PySem.Env) (s : Shared) (H : Hp) (E : XK) (hr : Room 9 (A.deeper (envOfC "inputs" (defScope s_inputs) s.heap.objs.size f cdv))) :
    PSs (cxOf (L2.CX P w) P w K mg base N_inputs "inputs" (defScope s_inputs) f cdv A outer s H E) (defBody s_inputs) (TSc K (plainS Tb) (WX0 E) (g_inputs)) := by
  have nd : N_inputs.Nodup := by decide
  have hu := hr.units
  unfold g_inputs
  exact (cs_cons (c_expr (c_call F_check_way hr (by decide) (by first | rfl | kernel_rfl) tk_cx (ca_cons (c_var (i := 0) rfl (by first | exact .inl rfl | exact .inr (.inl rfl) | exact .inr (.inr rfl))) ca_nil)))
  (cs_one (c_ret c_stuck)))
abbrev s_written : Stmt := top 123
def N_written : List Str := ["way", "bits", "helps", "nodes", "cards", "lines", "node", "line"]
def g_written : SD.Env → Mem → SRes := (fSeq (fExpr (fFn 1 m_check_way (fCons (fVar 0) fNil)))
  (fSeq (fAsg (fVar 0) (aTup 3 (aCons (aName 1) (aCons (aName 2) (aCons (aName 3) aNil)))))
  (fSeq (fAsg (fIf (fTr (fVar 2)) fStuck (fC (.str "-"))) (aName 4))
  (fSeq (fAsg (fBin gAdd (fLst (fLim (fCons fStuck fNil))) (fLst (fComp (fIt (fVar 3)) [6] (aName 6) (fun _ M => .ok true M) fStuck))) (aName 5))
  (fRet fStuck)))))
def m_written : List D → Mem → Res D := SD.mOf 8 (g_written)
theorem b_written (g : Gx K mg) {f : Addr} (F_check_way : DefOk P w K mg base Tb 9 "check_way" 1 m_check_way) (cdv : Value) (A : Around) (outer : List PySem.Env) (s : Shared) (H : Hp) (E : XK) (hr : Room 9 (A.deeper (envOfC "written" (defScope s_written) s.heap.objs.size f cdv))) :
    PSs (cxOf (L2.CX P w) P w K mg base N_written "written" (defScope s_written) f cdv A outer s H E) (defBody s_written) (TSc K (plainS Tb) (WX0 E) (g_written)) := by
  have nd : N_written.Nodup := by decide
  have hu := hr.units
  unfold g_written
  exact (cs_cons (c_expr (c_call F_check_way hr (by decide) (by first | rfl | kernel_rfl) tk_cx (ca_cons (c_var (i := 0) rfl (by first | exact .inl rfl | exact .inr (.inl rfl) | exact .inr (.inr rfl))) ca_nil)))
  (cs_cons (c_asg (c_var (i := 0) rfl (by first | exact .inl rfl | exact .inr (.inl rfl) | exact .inr (.inr rfl))) (cg_tup rfl (cg_cons (cg_name (i := 1) nd rfl (by first | exact .inl rfl | exact .inr rfl) (by first | exact .inl rfl | exact .inr rfl)) (cg_cons (cg_name (i := 2) nd rfl (by first | exact .inl rfl | exact .inr rfl) (by first | exact .inl rfl | exact .inr rfl)) (cg_cons (cg_name (i := 3) nd rfl (by first | exact .inl rfl | exact .inr rfl) (by first | exact .inl rfl | exact .inr rfl)) cg_nil)))) (by first | rfl | kernel_rfl) (by first | rfl | kernel_rfl) (by first | rfl | kernel_rfl))
  (cs_cons (c_set (i := 4) nd rfl (by first | exact .inl rfl | exact .inr rfl) (c_if (c_tr (c_var (i := 2) rfl (by first | exact .inl rfl | exact .inr (.inl rfl) | exact .inr (.inr rfl)))) c_stuck c_str) (hf := by first | exact .inl rfl | exact .inr rfl))
  (cs_cons (c_set (i := 5) nd rfl (by first | exact .inl rfl | exact .inr rfl) (c_bin c_add_op (c_lstN (c_disp (ca_cons c_stuck ca_nil))) (c_lstN (c_lc rfl nd (own := [("node", 6)]) (ix := [6]) (ci_seq (c_var (i := 3) rfl (by first | exact .inl rfl | exact .inr (.inl rfl) | exact .inr (.inr rfl)))) (blk_of (by first | rfl | kernel_rfl)) (by decide) (fun _ _ _ _ _ => (cg_name (i := 6) nd rfl (by first | exact .inl rfl | exact .inr rfl) (by first | exact .inl rfl | exact .inr rfl))) (fun _ _ _ _ _ => cts_nil) (fun _ _ _ _ _ => c_stuck)))) (hf := by first | exact .inl rfl | exact .inr rfl))
  (cs_one (c_ret c_stuck))))))
abbrev s_check_input : Stmt := top 27
def N_check_input : List Str := ["way", "value"]
def g_check_input : SD.Env → Mem → SRes := (fIfS (fNotT (fTr (fFn 3 m_are_bits (fCons (fVar 1) (fCons (fBin gIx (fVar 0) (fC (.int 0))) (fCons (fBin gIx (fVar 0) (fC (.int 0))) fNil)))))) (fun ρ M => .exn ⟨"BadInput", []⟩ ρ M)
  fNext)
def m_check_input : List D → Mem → Res D := SD.mOf 2 (g_check_input)
theorem b_check_input (g : Gx K mg) {f : Addr} (F_are_bits : DefOk P w K mg base Tb 3 "are_bits" 3 m_are_bits) (cdv : Value) (A : Around) (outer : List PySem.Env) (s : Shared) (H : Hp) (E : XK) (hr : Room 3 (A.deeper (envOfC "check_input" (defScope s_check_input) s.heap.objs.size f cdv))) :
    PSs (cxOf (L2.CX P w) P w K mg base N_check_input "check_input" (defScope s_check_input) f cdv A outer s H E) (defBody s_check_input) (TSc K (plainS Tb) (WX0 E) (g_check_input)) := by
  have nd : N_check_input.Nodup := by decide
  have hu := hr.units
  unfold g_check_input
  exact (cs_one (c_ifS (ct_not (c_tr (c_call F_are_bits hr (by decide) (by first | rfl | kernel_rfl) tk_cx (ca_cons (c_var (i := 1) rfl (by first | exact .inl rfl | exact .inr (.inl rfl) | exact .inr (.inr rfl))) (ca_cons (c_ix (c_var (i := 0) rfl (by first | exact .inl rfl | exact .inr (.inl rfl) | exact .inr (.inr rfl))) c_int) (ca_cons (c_ix (c_var (i := 0) rfl (by first | exact .inl rfl | exact .inr (.inl rfl) | exact .inr (.inr rfl))) c_int) ca_nil)))))) (cs_one (c_raise0 rfl tk_cx g.e_BadInput (by first | rfl | kernel_rfl) g.x_BadInput))
  cs_nil))
abbrev s_first_row : Stmt := top 25
def N_first_row : List Str := ["way", "one"]
def g_first_row : SD.Env → Mem → SRes := (fSeq (fExpr (fFn 1 m_check_way (fCons (fVar 0) fNil)))
  (fSeq (fExpr (fFn 2 m_check_input (fCons (fVar 0) (fCons (fVar 1) fNil))))
  (fRet fStuck)))
def m_first_row : List D → Mem → Res D := SD.mOf 2 (g_first_row)
theorem b_first_row (g : Gx K mg) {f : Addr} (F_check_way : DefOk P w K mg base Tb 9 "check_way" 1 m_check_way) (F_check_input : DefOk P w K mg base Tb 4 "check_input" 2 m_check_input) (cdv : Value) (A : Around) (outer : List PySem.Env) (s : Shared) (H : Hp) (E : XK) (hr : Room 9 (A.deeper (envOfC "first_row" (defScope s_first_row) s.heap.objs.size f cdv))) :
    PSs (cxOf (L2.CX P w) P w K mg base N_first_row "first_row" (defScope s_first_row) f cdv A outer s H E) (defBody s_first_row) (TSc K (plainS Tb) (WX0 E) (g_first_row)) := by
  have nd : N_first_row.Nodup := by decide
  have hu := hr.units
  unfold g_first_row
  exact (cs_cons (c_expr (c_call F_check_way hr (by decide) (by first | rfl | kernel_rfl) tk_cx (ca_cons (c_var (i := 0) rfl (by first | exact .inl rfl | exact .inr (.inl rfl) | exact .inr (.inr rfl))) ca_nil)))
  (cs_cons (c_expr (c_call F_check_input hr (by decide) (by first | rfl | kernel_rfl) tk_cx (ca_cons (c_var (i := 0) rfl (by first | exact .inl rfl | exact .inr (.inl rfl) | exact .inr (.inr rfl))) (ca_cons (c_var (i := 1) rfl (by first | exact .inl rfl | exact .inr (.inl rfl) | exact .inr (.inr rfl))) ca_nil))))
  (cs_one (c_ret c_stuck))))
abbrev s_mean_turns : Stmt := top 114
def N_mean_turns : List Str := ["way", "one"]
def g_mean_turns : SD.Env → Mem → SRes := (fSeq (fExpr (fFn 1 m_check_way (fCons (fVar 0) fNil)))
  (fSeq (fExpr (fFn 2 m_check_input (fCons (fVar 0) (fCons (fVar 1) fNil))))
  (fRet fStuck)))
def m_mean_turns : List D → Mem → Res D := SD.mOf 2 (g_mean_turns)
theorem b_mean_turns (g : Gx K mg) {f : Addr} (F_check_way : DefOk P w K mg base Tb 9 "check_way" 1 m_check_way) (F_check_input : DefOk P w K mg base Tb 4 "check_input" 2 m_check_input) (cdv : Value) (A : Around) (outer : List PySem.Env) (s : Shared) (H : Hp) (E : XK) (hr : Room 9 (A.deeper (envOfC "mean_turns" (defScope s_mean_turns) s.heap.objs.size f cdv))) :
    PSs (cxOf (L2.CX P w) P w K mg base N_mean_turns "mean_turns" (defScope s_mean_turns) f cdv A outer s H E) (defBody s_mean_turns) (TSc K (plainS Tb) (WX0 E) (g_mean_turns)) := by
  have nd : N_mean_turns.Nodup := by decide
  have hu := hr.units
  unfold g_mean_turns
  exact (cs_cons (c_expr (c_call F_check_way hr (by decide) (by first | rfl | kernel_rfl) tk_cx (ca_cons (c_var (i := 0) rfl (by first | exact .inl rfl | exact .inr (.inl rfl) | exact .inr (.inr rfl))) ca_nil)))
  (cs_cons (c_expr (c_call F_check_input hr (by decide) (by first | rfl | kernel_rfl) tk_cx (ca_cons (c_var (i := 0) rfl (by first | exact .inl rfl | exact .inr (.inl rfl) | exact .inr (.inr rfl))) (ca_cons (c_var (i := 1) rfl (by first | exact .inl rfl | exact .inr (.inl rfl) | exact .inr (.inr rfl))) ca_nil))))
  (cs_one (c_ret c_stuck))))
abbrev s_mean_shuffles : Stmt := top 115
def N_mean_shuffles : List Str := ["way", "one"]
def g_mean_shuffles : SD.Env → Mem → SRes := (fSeq (fExpr (fFn 1 m_check_way (fCons (fVar 0) fNil)))
  (fSeq (fExpr (fFn 2 m_check_input (fCons (fVar 0) (fCons (fVar 1) fNil))))
  (fRet fStuck)))
def m_mean_shuffles : List D → Mem → Res D := SD.mOf 2 (g_mean_shuffles)
theorem b_mean_shuffles (g : Gx K mg) {f : Addr} (F_check_way : DefOk P w K mg base Tb 9 "check_way" 1 m_check_way) (F_check_input : DefOk P w K mg base Tb 4 "check_input" 2 m_check_input) (cdv : Value) (A : Around) (outer : List PySem.Env) (s : Shared) (H : Hp) (E : XK) (hr : Room 9 (A.deeper (envOfC "mean_shuffles" (defScope s_mean_shuffles) s.heap.objs.size f cdv))) :
    PSs (cxOf (L2.CX P w) P w K mg base N_mean_shuffles "mean_shuffles" (defScope s_mean_shuffles) f cdv A outer s H E) (defBody s_mean_shuffles) (TSc K (plainS Tb) (WX0 E) (g_mean_shuffles)) := by
  have nd : N_mean_shuffles.Nodup := by decide
  have hu := hr.units
  unfold g_mean_shuffles
  exact (cs_cons (c_expr (c_call F_check_way hr (by decide) (by first | rfl | kernel_rfl) tk_cx (ca_cons (c_var (i := 0) rfl (by first | exact .inl rfl | exact .inr (.inl rfl) | exact .inr (.inr rfl))) ca_nil)))
  (cs_cons (c_expr (c_call F_check_input hr (by decide) (by first | rfl | kernel_rfl) tk_cx (ca_cons (c_var (i := 0) rfl (by first | exact .inl rfl | exact .inr (.inl rfl) | exact .inr (.inr rfl))) (ca_cons (c_var (i := 1) rfl (by first | exact .inl rfl | exact .inr (.inl rfl) | exact .inr (.inr rfl))) ca_nil))))
  (cs_one (c_ret c_stuck))))
abbrev s_check_wish : Stmt := top 28
def N_check_wish : List Str := ["bits", "value", "many", "result"]
def g_check_wish : SD.Env → Mem → SRes := (fSeq (fAsg (fBin gShl (fC (.int 1)) (fVar 0)) (aName 2))
  (fSeq (fIfS (fOrT (fNotT (fTr (fFn 3 m_is_tuple (fCons (fVar 1) (fCons (fVar 2) (fCons (fVar 2) fNil)))))) (fNotT (fTr (fCall gAll (fCons (fLst (fComp (fIt (fVar 1)) [3] (aName 3) (fun _ M => .ok true M) (fFn 3 m_are_bits (fCons (fVar 3) (fCons (fC (.int 1)) (fCons (fC (.int 2)) fNil)))))) fNil))))) (fun ρ M => .exn ⟨"BadWish", []⟩ ρ M)
  fNext)
  (fIfS (fBl (fBin gNe (fLenSetI (fComp (fIt (fVar 1)) [3] (aName 3) (fun _ M => .ok true M) (fCall gLen (fCons (fVar 3) fNil)))) (fC (.int 1)))) (fun ρ M => .exn ⟨"BadWish", []⟩ ρ M)
  fNext)))
def m_check_wish : List D → Mem → Res D := SD.mOf 4 (g_check_wish)
theorem b_check_wish (g : Gx K mg) {f : Addr} (F_is_tuple : DefOk P w K mg base Tb 1 "is_tuple" 3 m_is_tuple) (F_are_bits : DefOk P w K mg base Tb 3 "are_bits" 3 m_are_bits) (cdv : Value) (A : Around) (outer : List PySem.Env) (s : Shared) (H : Hp) (E : XK) (hr : Room 3 (A.deeper (envOfC "check_wish" (defScope s_check_wish) s.heap.objs.size f cdv))) :
    PSs (cxOf (L2.CX P w) P w K mg base N_check_wish "check_wish" (defScope s_check_wish) f cdv A outer s H E) (defBody s_check_wish) (TSc K (plainS Tb) (WX0 E) (g_check_wish)) := by
  have nd : N_check_wish.Nodup := by decide
  have hu := hr.units
  unfold g_check_wish
  exact (cs_cons (c_set (i := 2) nd rfl (by first | exact .inl rfl | exact .inr rfl) (c_bin c_shl_op c_int (c_var (i := 0) rfl (by first | exact .inl rfl | exact .inr (.inl rfl) | exact .inr (.inr rfl)))) (hf := by first | exact .inl rfl | exact .inr rfl))
  (cs_cons (c_ifS (PW.pt (cw_or (ct_not (c_tr (c_call F_is_tuple hr (by decide) (by first | rfl | kernel_rfl) tk_cx (ca_cons (c_var (i := 1) rfl (by first | exact .inl rfl | exact .inr (.inl rfl) | exact .inr (.inr rfl))) (ca_cons (c_var (i := 2) rfl (by first | exact .inl rfl | exact .inr (.inl rfl) | exact .inr (.inr rfl))) (ca_cons (c_var (i := 2) rfl (by first | exact .inl rfl | exact .inr (.inl rfl) | exact .inr (.inr rfl))) ca_nil)))))) (cw_or1 (ct_not (c_tr (c_callB (cc_all rfl) (by first | rfl | kernel_rfl) g.z_all (by decide +kernel) (ca_cons (c_lstN (c_lc rfl nd (own := [("result", 3)]) (ix := [3]) (ci_seq (c_var (i := 1) rfl (by first | exact .inl rfl | exact .inr (.inl rfl) | exact .inr (.inr rfl)))) (blk_of (by first | rfl | kernel_rfl)) (by decide) (fun _ _ _ _ _ => (cg_name (i := 3) nd rfl (by first | exact .inl rfl | exact .inr rfl) (by first | exact .inl rfl | exact .inr rfl))) (fun _ _ _ _ _ => cts_nil) (fun _ _ _ _ _ => (c_call F_are_bits hr (by decide) (by first | rfl | kernel_rfl) takes0 (ca_cons (c_var (i := 3) rfl (by first | exact .inl rfl | exact .inr (.inl rfl) | exact .inr (.inr rfl))) (ca_cons c_int (ca_cons c_int ca_nil))))))) ca_nil))))))) (cs_one (c_raise0 rfl tk_cx g.e_BadWish (by first | rfl | kernel_rfl) g.x_BadWish))
  cs_nil)
  (cs_one (c_ifS (ct_cmp (c_ne_op hu) (c_lenSetI rfl nd (by first | rfl | kernel_rfl) g.z_len (own := [("result", 3)]) (ix := [3]) (ci_seq (c_var (i := 1) rfl (by first | exact .inl rfl | exact .inr (.inl rfl) | exact .inr (.inr rfl)))) (blk_of (by first | rfl | kernel_rfl)) (by decide) (fun _ _ _ _ _ => (cg_name (i := 3) nd rfl (by first | exact .inl rfl | exact .inr rfl) (by first | exact .inl rfl | exact .inr rfl))) (fun _ _ _ _ _ => cts_nil) (fun _ _ _ _ _ => (c_callB cc_len (by first | rfl | kernel_rfl) g.z_len (by decide +kernel) (ca_cons (c_var (i := 3) rfl (by first | exact .inl rfl | exact .inr (.inl rfl) | exact .inr (.inr rfl))) ca_nil)))) c_int (by first | rfl | kernel_rfl)) (cs_one (c_raise0 rfl tk_cx g.e_BadWish (by first | rfl | kernel_rfl) g.x_BadWish))
  cs_nil))))
abbrev s_shows_sound : Stmt := top 65
def N_shows_sound : List Str := ["way", "wish", "value", "place", "places", "numbers", "number", "links", "behind", "after"]
def g_shows_sound : SD.Env → Mem → SRes := (fSeq (fExpr (fFn 1 m_check_way (fCons (fVar 0) fNil)))
  (fSeq (fExpr (fFn 2 m_check_wish (fCons (fBin gIx (fVar 0) (fC (.int 0))) (fCons (fVar 1) fNil))))
  (fSeq (fIfS (fOrT (fNotT (fTr (fGo (gIsi ["tuple"]) (fVar 2)))) (fNotT (fTr (fCall gAll (fCons (fLst (fComp (fIt (fVar 2)) [3] (aName 3) (fun _ M => .ok true M) fStuck)) fNil))))) (fRet (fC (.bl false)))
  fNext)
  (fSeq (fAsg (fLst (fCallN gList (fCons fStuck fNil))) (aName 4))
  (fSeq (fAsg fStuck (aName 5))
  (fSeq (fIfS (fOrT (fBl (fBin (gIn true) fStuck (fVar 5))) (fTr (fCall gAny (fCons (fLst (fComp (fIt (fVar 4)) [3] (aName 3) (fun _ M => .ok true M) fStuck)) fNil)))) (fRet (fC (.bl false)))
  fNext)
  (fSeq (fAsg (fNew (fLim fNil)) (aName 7))
  (fSeq (fFor (fIt (fVar 4)) (aName 3) (fSeq (fAsg fStuck (aName 8))
  (fSeq (fIfS (fNotT (fTr (fCall gAll (fCons (fLst (fComp (fIt (fVar 8)) [9] (aName 9) (fun _ M => .ok true M) (fBin (gIn false) (fVar 9) (fVar 5)))) fNil)))) (fRet (fC (.bl false)))
  fNext)
  (fExpr (fM1 gAppend (fVar 7) (fLst (fComp (fIt (fVar 8)) [9] (aName 9) (fun _ M => .ok true M) (fBin gIx (fVar 5) (fVar 9)))))))))
  (fRet fStuck)))))))))
def m_shows_sound : List D → Mem → Res D := SD.mOf 10 (g_shows_sound)
theorem b_shows_sound (g : Gx K mg) {f : Addr} (F_check_way : DefOk P w K mg base Tb 9 "check_way" 1 m_check_way) (F_check_wish : DefOk P w K mg base Tb 4 "check_wish" 2 m_check_wish) (cdv : Value) (A : Around) (outer : List PySem.Env) (s : Shared) (H : Hp) (E : XK) (hr : Room 9 (A.deeper (envOfC "shows_sound" (defScope s_shows_sound) s.heap.objs.size f cdv))) :
    PSs (cxOf (L2.CX P w) P w K mg base N_shows_sound "shows_sound" (defScope s_shows_sound) f cdv A outer s H E) (defBody s_shows_sound) (TSc K (plainS Tb) (WX0 E) (g_shows_sound)) := by
  have nd : N_shows_sound.Nodup := by decide
  have hu := hr.units
  unfold g_shows_sound
  exact (cs_cons (c_expr (c_call F_check_way hr (by decide) (by first | rfl | kernel_rfl) tk_cx (ca_cons (c_var (i := 0) rfl (by first | exact .inl rfl | exact .inr (.inl rfl) | exact .inr (.inr rfl))) ca_nil)))
  (cs_cons (c_expr (c_call F_check_wish hr (by decide) (by first | rfl | kernel_rfl) tk_cx (ca_cons (c_ix (c_var (i := 0) rfl (by first | exact .inl rfl | exact .inr (.inl rfl) | exact .inr (.inr rfl))) c_int) (ca_cons (c_var (i := 1) rfl (by first | exact .inl rfl | exact .inr (.inl rfl) | exact .inr (.inr rfl))) ca_nil))))
  (cs_cons (c_ifS (PW.pt (cw_or (ct_not (c_tr (c_isi good_tuple (by first | rfl | kernel_rfl) g.z_isinstance (by first | rfl | kernel_rfl) g.z_tuple (by decide +kernel) (c_var (i := 2) rfl (by first | exact .inl rfl | exact .inr (.inl rfl) | exact .inr (.inr rfl)))))) (cw_or1 (ct_not (c_tr (c_callB (cc_all rfl) (by first | rfl | kernel_rfl) g.z_all (by decide +kernel) (ca_cons (c_lstN (c_lc rfl nd (own := [("place", 3)]) (ix := [3]) (ci_seq (c_var (i := 2) rfl (by first | exact .inl rfl | exact .inr (.inl rfl) | exact .inr (.inr rfl)))) (blk_of (by first | rfl | kernel_rfl)) (by decide) (fun _ _ _ _ _ => (cg_name (i := 3) nd rfl (by first | exact .inl rfl | exact .inr rfl) (by first | exact .inl rfl | exact .inr rfl))) (fun _ _ _ _ _ => cts_nil) (fun _ _ _ _ _ => c_stuck))) ca_nil))))))) (cs_one (c_ret c_bl))
  cs_nil)
  (cs_cons (c_set (i := 4) nd rfl (by first | exact .inl rfl | exact .inr rfl) (c_lstN (c_callTN cc_list (by first | rfl | kernel_rfl) g.z_list (by decide +kernel) (ca_cons c_stuck ca_nil))) (hf := by first | exact .inl rfl | exact .inr rfl))
  (cs_cons (c_set (i := 5) nd rfl (by first | exact .inl rfl | exact .inr rfl) c_stuck (hf := by first | exact .inl rfl | exact .inr rfl))
  (cs_cons (c_ifS (PW.pt (cw_or (ct_cmp c_notin_op c_stuck (c_var (i := 5) rfl (by first | exact .inl rfl | exact .inr (.inl rfl) | exact .inr (.inr rfl))) (by first | rfl | kernel_rfl)) (cw_or1 (c_tr (c_callB (cc_any rfl) (by first | rfl | kernel_rfl) g.z_any (by decide +kernel) (ca_cons (c_lstN (c_lc rfl nd (own := [("place", 3)]) (ix := [3]) (ci_seq (c_var (i := 4) rfl (by first | exact .inl rfl | exact .inr (.inl rfl) | exact .inr (.inr rfl)))) (blk_of (by first | rfl | kernel_rfl)) (by decide) (fun _ _ _ _ _ => (cg_name (i := 3) nd rfl (by first | exact .inl rfl | exact .inr rfl) (by first | exact .inl rfl | exact .inr rfl))) (fun _ _ _ _ _ => cts_nil) (fun _ _ _ _ _ => c_stuck))) ca_nil)))))) (cs_one (c_ret c_bl))
  cs_nil)
  (cs_cons (c_set (i := 7) nd rfl (by first | exact .inl rfl | exact .inr rfl) (c_newN (c_disp ca_nil)) (hf := by first | exact .inl rfl | exact .inr rfl))
  (cs_cons (c_for own_cx rfl (ci_seq (c_var (i := 4) rfl (by first | exact .inl rfl | exact .inr (.inl rfl) | exact .inr (.inr rfl)))) (cg_name (i := 3) nd rfl (by first | exact .inl rfl | exact .inr rfl) (by first | exact .inl rfl | exact .inr rfl)) (cs_cons (c_set (i := 8) nd rfl (by first | exact .inl rfl | exact .inr rfl) c_stuck (hf := by first | exact .inl rfl | exact .inr rfl))
  (cs_cons (c_ifS (ct_not (c_tr (c_callB (cc_all rfl) (by first | rfl | kernel_rfl) g.z_all (by decide +kernel) (ca_cons (c_lstN (c_lc rfl nd (own := [("after", 9)]) (ix := [9]) (ci_seq (c_var (i := 8) rfl (by first | exact .inl rfl | exact .inr (.inl rfl) | exact .inr (.inr rfl)))) (blk_of (by first | rfl | kernel_rfl)) (by decide) (fun _ _ _ _ _ => (cg_name (i := 9) nd rfl (by first | exact .inl rfl | exact .inr rfl) (by first | exact .inl rfl | exact .inr rfl))) (fun _ _ _ _ _ => cts_nil) (fun _ _ _ _ _ => (c_cmp c_in_op (c_var (i := 9) rfl (by first | exact .inl rfl | exact .inr (.inl rfl) | exact .inr (.inr rfl))) (c_var (i := 5) rfl (by first | exact .inl rfl | exact .inr (.inl rfl) | exact .inr (.inr rfl))) (by first | rfl | kernel_rfl))))) ca_nil)))) (cs_one (c_ret c_bl))
  cs_nil)
  (cs_one (c_expr (c_append (c_var (i := 7) rfl (by first | exact .inl rfl | exact .inr (.inl rfl) | exact .inr (.inr rfl))) (c_lstN (c_lc rfl nd (own := [("after", 9)]) (ix := [9]) (ci_seq (c_var (i := 8) rfl (by first | exact .inl rfl | exact .inr (.inl rfl) | exact .inr (.inr rfl)))) (blk_of (by first | rfl | kernel_rfl)) (by decide) (fun _ _ _ _ _ => (cg_name (i := 9) nd rfl (by first | exact .inl rfl | exact .inr rfl) (by first | exact .inl rfl | exact .inr rfl))) (fun _ _ _ _ _ => cts_nil) (fun _ _ _ _ _ => (c_ix (c_var (i := 5) rfl (by first | exact .inl rfl | exact .inr (.inl rfl) | exact .inr (.inr rfl))) (c_var (i := 9) rfl (by first | exact .inl rfl | exact .inr (.inl rfl) | exact .inr (.inr rfl)))))))))))))
  (cs_one (c_ret c_stuck))))))))))
abbrev s_sound_table : Stmt := top 63
def N_sound_table : List Str := ["way", "wish", "walk"]
def g_sound_table : SD.Env → Mem → SRes := (fSeq (fExpr (fFn 1 m_check_way (fCons (fVar 0) fNil)))
  (fSeq (fExpr (fFn 2 m_check_wish (fCons (fBin gIx (fVar 0) (fC (.int 0))) (fCons (fVar 1) fNil))))
  (fSeq (fAsg fStuck (aName 2))
  (fSeq (fIfS (fOrT (fBl (fBin gIs (fVar 2) (fC .non))) (fNotT (fTr fStuck))) (fRet (fC .non))
  fNext)
  (fRet (fCall gTuple (fCons fStuck fNil)))))))
def m_sound_table : List D → Mem → Res D := SD.mOf 3 (g_sound_table)
theorem b_sound_table (g : Gx K mg) {f : Addr} (F_check_way : DefOk P w K mg base Tb 9 "check_way" 1 m_check_way) (F_check_wish : DefOk P w K mg base Tb 4 "check_wish" 2 m_check_wish) (cdv : Value) (A : Around) (outer : List PySem.Env) (s : Shared) (H : Hp) (E : XK) (hr : Room 9 (A.deeper (envOfC "sound_table" (defScope s_sound_table) s.heap.objs.size f cdv))) :
    PSs (cxOf (L2.CX P w) P w K mg base N_sound_table "sound_table" (defScope s_sound_table) f cdv A outer s H E) (defBody s_sound_table) (TSc K (plainS Tb) (WX0 E) (g_sound_table)) := by
  have nd : N_sound_table.Nodup := by decide
  have hu := hr.units
  unfold g_sound_table
  exact (cs_cons (c_expr (c_call F_check_way hr (by decide) (by first | rfl | kernel_rfl) tk_cx (ca_cons (c_var (i := 0) rfl (by first | exact .inl rfl | exact .inr (.inl rfl) | exact .inr (.inr rfl))) ca_nil)))
  (cs_cons (c_expr (c_call F_check_wish hr (by decide) (by first | rfl | kernel_rfl) tk_cx (ca_cons (c_ix (c_var (i := 0) rfl (by first | exact .inl rfl | exact .inr (.inl rfl) | exact .inr (.inr rfl))) c_int) (ca_cons (c_var (i := 1) rfl (by first | exact .inl rfl | exact .inr (.inl rfl) | exact .inr (.inr rfl))) ca_nil))))
  (cs_cons (c_set (i := 2) nd rfl (by first | exact .inl rfl | exact .inr rfl) c_stuck (hf := by first | exact .inl rfl | exact .inr rfl))
  (cs_cons (c_ifS (PW.pt (cw_or (ct_cmp c_is_op (c_var (i := 2) rfl (by first | exact .inl rfl | exact .inr (.inl rfl) | exact .inr (.inr rfl))) c_non (by first | rfl | kernel_rfl)) (cw_or1 (ct_not (c_tr c_stuck))))) (cs_one (c_ret c_non))
  cs_nil)
  (cs_one (c_ret (c_callT cc_tuple (by first | rfl | kernel_rfl) g.z_tuple (by decide +kernel) (ca_cons c_stuck ca_nil))))))))
abbrev s_is_sound : Stmt := top 62
def N_is_sound : List Str := ["way", "wish"]
def g_is_sound : SD.Env → Mem → SRes := (fRet (fBin gIsNot (fFn 2 m_sound_table (fCons (fVar 0) (fCons (fVar 1) fNil))) (fC .non)))
def m_is_sound : List D → Mem → Res D := SD.mOf 2 (g_is_sound)
theorem b_is_sound (g : Gx K mg) {f : Addr} (F_sound_table : DefOk P w K mg base Tb 10 "sound_table" 2 m_sound_table) (cdv : Value) (A : Around) (outer : List PySem.Env) (s : Shared) (H : Hp) (E : XK) (hr : Room 10 (A.deeper (envOfC "is_sound" (defScope s_is_sound) s.heap.objs.size f cdv))) :
    PSs (cxOf (L2.CX P w) P w K mg base N_is_sound "is_sound" (defScope s_is_sound) f cdv A outer s H E) (defBody s_is_sound) (TSc K (plainS Tb) (WX0 E) (g_is_sound)) := by
  have nd : N_is_sound.Nodup := by decide
  have hu := hr.units
  unfold g_is_sound
  exact (cs_one (c_ret (c_cmp c_isnot_op (c_call F_sound_table hr (by decide) (by first | rfl | kernel_rfl) tk_cx (ca_cons (c_var (i := 0) rfl (by first | exact .inl rfl | exact .inr (.inl rfl) | exact .inr (.inr rfl))) (ca_cons (c_var (i := 1) rfl (by first | exact .inl rfl | exact .inr (.inl rfl) | exact .inr (.inr rfl))) ca_nil))) c_non (by first | rfl | kernel_rfl))))
abbrev s_ends_surely : Stmt := top 64
def N_ends_surely : List Str := ["way", "wish", "walk"]
def g_ends_surely : SD.Env → Mem → SRes := (fSeq (fExpr (fFn 1 m_check_way (fCons (fVar 0) fNil)))
  (fSeq (fExpr (fFn 2 m_check_wish (fCons (fBin gIx (fVar 0) (fC (.int 0))) (fCons (fVar 1) fNil))))
  (fSeq (fAsg fStuck (aName 2))
  (fSeq (fIfS (fBl (fBin gIs (fVar 2) (fC .non))) (fRet (fC .non))
  fNext)
  (fRet fStuck)))))
def m_ends_surely : List D → Mem → Res D := SD.mOf 3 (g_ends_surely)
theorem b_ends_surely (g : Gx K mg) {f : Addr} (F_check_way : DefOk P w K mg base Tb 9 "check_way" 1 m_check_way) (F_check_wish : DefOk P w K mg base Tb 4 "check_wish" 2 m_check_wish) (cdv : Value) (A : Around) (outer : List PySem.Env) (s : Shared) (H : Hp) (E : XK) (hr : Room 9 (A.deeper (envOfC "ends_surely" (defScope s_ends_surely) s.heap.objs.size f cdv))) :
    PSs (cxOf (L2.CX P w) P w K mg base N_ends_surely "ends_surely" (defScope s_ends_surely) f cdv A outer s H E) (defBody s_ends_surely) (TSc K (plainS Tb) (WX0 E) (g_ends_surely)) := by
  have nd : N_ends_surely.Nodup := by decide
  have hu := hr.units
  unfold g_ends_surely
  exact (cs_cons (c_expr (c_call F_check_way hr (by decide) (by first | rfl | kernel_rfl) tk_cx (ca_cons (c_var (i := 0) rfl (by first | exact .inl rfl | exact .inr (.inl rfl) | exact .inr (.inr rfl))) ca_nil)))
  (cs_cons (c_expr (c_call F_check_wish hr (by decide) (by first | rfl | kernel_rfl) tk_cx (ca_cons (c_ix (c_var (i := 0) rfl (by first | exact .inl rfl | exact .inr (.inl rfl) | exact .inr (.inr rfl))) c_int) (ca_cons (c_var (i := 1) rfl (by first | exact .inl rfl | exact .inr (.inl rfl) | exact .inr (.inr rfl))) ca_nil))))
  (cs_cons (c_set (i := 2) nd rfl (by first | exact .inl rfl | exact .inr rfl) c_stuck (hf := by first | exact .inl rfl | exact .inr rfl))
  (cs_cons (c_ifS (ct_cmp c_is_op (c_var (i := 2) rfl (by first | exact .inl rfl | exact .inr (.inl rfl) | exact .inr (.inr rfl))) c_non (by first | rfl | kernel_rfl)) (cs_one (c_ret c_non))
  cs_nil)
  (cs_one (c_ret c_stuck))))))
abbrev s_sight_chance : Stmt := top 110
def N_sight_chance : List Str := ["way", "one", "sights", "sight"]
def g_sight_chance : SD.Env → Mem → SRes := (fSeq (fExpr (fFn 1 m_check_way (fCons (fVar 0) fNil)))
  (fSeq (fExpr (fFn 2 m_check_input (fCons (fVar 0) (fCons (fVar 1) fNil))))
  (fSeq (fIfS (fOrT (fNotT (fTr (fFn 3 m_is_tuple (fCons (fVar 2) (fCons (fC (.int 0)) (fCons (fC (.int 6)) fNil)))))) (fNotT (fTr (fCall gAll (fCons (fLst (fComp (fIt (fVar 2)) [3] (aName 3) (fun _ M => .ok true M) (fFn 3 m_are_bits (fCons (fVar 3) (fCons (fC (.int 1)) (fCons (fC (.int 8)) fNil)))))) fNil))))) (fun ρ M => .exn ⟨"BadSights", []⟩ ρ M)
  fNext)
  (fRet fStuck))))
def m_sight_chance : List D → Mem → Res D := SD.mOf 4 (g_sight_chance)
theorem b_sight_chance (g : Gx K mg) {f : Addr} (F_check_way : DefOk P w K mg base Tb 9 "check_way" 1 m_check_way) (F_check_input : DefOk P w K mg base Tb 4 "check_input" 2 m_check_input) (F_is_tuple : DefOk P w K mg base Tb 1 "is_tuple" 3 m_is_tuple) (F_are_bits : DefOk P w K mg base Tb 3 "are_bits" 3 m_are_bits) (cdv : Value) (A : Around) (outer : List PySem.Env) (s : Shared) (H : Hp) (E : XK) (hr : Room 9 (A.deeper (envOfC "sight_chance" (defScope s_sight_chance) s.heap.objs.size f cdv))) :
    PSs (cxOf (L2.CX P w) P w K mg base N_sight_chance "sight_chance" (defScope s_sight_chance) f cdv A outer s H E) (defBody s_sight_chance) (TSc K (plainS Tb) (WX0 E) (g_sight_chance)) := by
  have nd : N_sight_chance.Nodup := by decide
  have hu := hr.units
  unfold g_sight_chance
  exact (cs_cons (c_expr (c_call F_check_way hr (by decide) (by first | rfl | kernel_rfl) tk_cx (ca_cons (c_var (i := 0) rfl (by first | exact .inl rfl | exact .inr (.inl rfl) | exact .inr (.inr rfl))) ca_nil)))
  (cs_cons (c_expr (c_call F_check_input hr (by decide) (by first | rfl | kernel_rfl) tk_cx (ca_cons (c_var (i := 0) rfl (by first | exact .inl rfl | exact .inr (.inl rfl) | exact .inr (.inr rfl))) (ca_cons (c_var (i := 1) rfl (by first | exact .inl rfl | exact .inr (.inl rfl) | exact .inr (.inr rfl))) ca_nil))))
  (cs_cons (c_ifS (PW.pt (cw_or (ct_not (c_tr (c_call F_is_tuple hr (by decide) (by first | rfl | kernel_rfl) tk_cx (ca_cons (c_var (i := 2) rfl (by first | exact .inl rfl | exact .inr (.inl rfl) | exact .inr (.inr rfl))) (ca_cons c_int (ca_cons (c_glob (by first | rfl | kernel_rfl) g.c_MOST_SIGHTS) ca_nil)))))) (cw_or1 (ct_not (c_tr (c_callB (cc_all rfl) (by first | rfl | kernel_rfl) g.z_all (by decide +kernel) (ca_cons (c_lstN (c_lc rfl nd (own := [("sight", 3)]) (ix := [3]) (ci_seq (c_var (i := 2) rfl (by first | exact .inl rfl | exact .inr (.inl rfl) | exact .inr (.inr rfl)))) (blk_of (by first | rfl | kernel_rfl)) (by decide) (fun _ _ _ _ _ => (cg_name (i := 3) nd rfl (by first | exact .inl rfl | exact .inr rfl) (by first | exact .inl rfl | exact .inr rfl))) (fun _ _ _ _ _ => cts_nil) (fun _ _ _ _ _ => (c_call F_are_bits hr (by decide) (by first | rfl | kernel_rfl) takes0 (ca_cons (c_var (i := 3) rfl (by first | exact .inl rfl | exact .inr (.inl rfl) | exact .inr (.inr rfl))) (ca_cons c_int (ca_cons (c_glob (by first | rfl | kernel_rfl) g.c_MOST_SEEN) ca_nil))))))) ca_nil))))))) (cs_one (c_raise0 rfl tk_cx g.e_BadSights (by first | rfl | kernel_rfl) g.x_BadSights))
  cs_nil)
  (cs_one (c_ret c_stuck)))))
abbrev s_check_many : Stmt := top 117
def N_check_many : List Str := ["value"]
def g_check_many : SD.Env → Mem → SRes := (fIfS (fNotT (fTr (fFn 3 m_is_number (fCons (fVar 0) (fCons (fC (.int 0)) (fCons (fC (.int 6)) fNil)))))) (fun ρ M => .exn ⟨"BadNumber", []⟩ ρ M)
  fNext)
def m_check_many : List D → Mem → Res D := SD.mOf 1 (g_check_many)
theorem b_check_many (g : Gx K mg) {f : Addr} (F_is_number : DefOk P w K mg base Tb 2 "is_number" 3 m_is_number) (cdv : Value) (A : Around) (outer : List PySem.Env) (s : Shared) (H : Hp) (E : XK) (hr : Room 2 (A.deeper (envOfC "check_many" (defScope s_check_many) s.heap.objs.size f cdv))) :
    PSs (cxOf (L2.CX P w) P w K mg base N_check_many "check_many" (defScope s_check_many) f cdv A outer s H E) (defBody s_check_many) (TSc K (plainS Tb) (WX0 E) (g_check_many)) := by
  have nd : N_check_many.Nodup := by decide
  have hu := hr.units
  unfold g_check_many
  exact (cs_one (c_ifS (ct_not (c_tr (c_call F_is_number hr (by decide) (by first | rfl | kernel_rfl) tk_cx (ca_cons (c_var (i := 0) rfl (by first | exact .inl rfl | exact .inr (.inl rfl) | exact .inr (.inr rfl))) (ca_cons c_int (ca_cons (c_glob (by first | rfl | kernel_rfl) g.c_MOST_SIGHTS) ca_nil)))))) (cs_one (c_raise0 rfl tk_cx g.e_BadNumber (by first | rfl | kernel_rfl) g.x_BadNumber))
  cs_nil))
abbrev s_check_watch : Stmt := top 116
def N_check_watch : List Str := ["way", "wish", "many"]
def g_check_watch : SD.Env → Mem → SRes := (fSeq (fExpr (fFn 1 m_check_way (fCons (fVar 0) fNil)))
  (fSeq (fExpr (fFn 2 m_check_wish (fCons (fBin gIx (fVar 0) (fC (.int 0))) (fCons (fVar 1) fNil))))
  (fExpr (fFn 1 m_check_many (fCons (fVar 2) fNil)))))
def m_check_watch : List D → Mem → Res D := SD.mOf 3 (g_check_watch)
theorem b_check_watch (g : Gx K mg) {f : Addr} (F_check_way : DefOk P w K mg base Tb 9 "check_way" 1 m_check_way) (F_check_wish : DefOk P w K mg base Tb 4 "check_wish" 2 m_check_wish) (F_check_many : DefOk P w K mg base Tb 3 "check_many" 1 m_check_many) (cdv : Value) (A : Around) (outer : List PySem.Env) (s : Shared) (H : Hp) (E : XK) (hr : Room 9 (A.deeper (envOfC "check_watch" (defScope s_check_watch) s.heap.objs.size f cdv))) :
    PSs (cxOf (L2.CX P w) P w K mg base N_check_watch "check_watch" (defScope s_check_watch) f cdv A outer s H E) (defBody s_check_watch) (TSc K (plainS Tb) (WX0 E) (g_check_watch)) := by
  have nd : N_check_watch.Nodup := by decide
  have hu := hr.units
  unfold g_check_watch
  exact (cs_cons (c_expr (c_call F_check_way hr (by decide) (by first | rfl | kernel_rfl) tk_cx (ca_cons (c_var (i := 0) rfl (by first | exact .inl rfl | exact .inr (.inl rfl) | exact .inr (.inr rfl))) ca_nil)))
  (cs_cons (c_expr (c_call F_check_wish hr (by decide) (by first | rfl | kernel_rfl) tk_cx (ca_cons (c_ix (c_var (i := 0) rfl (by first | exact .inl rfl | exact .inr (.inl rfl) | exact .inr (.inr rfl))) c_int) (ca_cons (c_var (i := 1) rfl (by first | exact .inl rfl | exact .inr (.inl rfl) | exact .inr (.inr rfl))) ca_nil))))
  (cs_one (c_expr (c_call F_check_many hr (by decide) (by first | rfl | kernel_rfl) tk_cx (ca_cons (c_var (i := 2) rfl (by first | exact .inl rfl | exact .inr (.inl rfl) | exact .inr (.inr rfl))) ca_nil))))))
abbrev s_first_leak : Stmt := top 111
def N_first_leak : List Str := ["way", "wish", "many", "found", "one", "other", "sights", "_"]
def g_first_leak : SD.Env → Mem → SRes := (fSeq (fExpr (fFn 3 m_check_watch (fCons (fVar 0) (fCons (fVar 1) (fCons (fVar 2) fNil)))))
  (fSeq (fAsg (fNew (fLim fNil)) (aName 3))
  (fSeq (fFor (fIt fStuck) (aTup 2 (aCons (aName 4) (aCons (aName 5) aNil))) (fSeq (fAsg fStuck (aName 6))
  (fIfS (fBl (fBin gIsNot (fVar 6) (fC .non))) (fExpr (fM1 gAppend (fVar 3) (fTup (fCons (fCall gLen (fCons (fVar 6) fNil)) (fCons (fVar 6) (fCons (fVar 4) (fCons (fVar 5) fNil)))))))
  fNext)))
  (fSeq (fIfS (fNotT (fTr (fVar 3))) (fRet (fC .non))
  fNext)
  (fSeq (fAsg (fCall gMin (fCons (fVar 3) fNil)) (aTup 4 (aCons (aName 7) (aCons (aName 6) (aCons (aName 4) (aCons (aName 5) aNil))))))
  (fRet (fTup (fCons (fVar 6) (fCons (fVar 4) (fCons (fVar 5) (fCons fStuck (fCons fStuck fNil))))))))))))
def m_first_leak : List D → Mem → Res D := SD.mOf 8 (g_first_leak)
theorem b_first_leak (g : Gx K mg) {f : Addr} (F_check_watch : DefOk P w K mg base Tb 10 "check_watch" 3 m_check_watch) (cdv : Value) (A : Around) (outer : List PySem.Env) (s : Shared) (H : Hp) (E : XK) (hr : Room 10 (A.deeper (envOfC "first_leak" (defScope s_first_leak) s.heap.objs.size f cdv))) :
    PSs (cxOf (L2.CX P w) P w K mg base N_first_leak "first_leak" (defScope s_first_leak) f cdv A outer s H E) (defBody s_first_leak) (TSc K (plainS Tb) (WX0 E) (g_first_leak)) := by
  have nd : N_first_leak.Nodup := by decide
  have hu := hr.units
  unfold g_first_leak
  exact (cs_cons (c_expr (c_call F_check_watch hr (by decide) (by first | rfl | kernel_rfl) tk_cx (ca_cons (c_var (i := 0) rfl (by first | exact .inl rfl | exact .inr (.inl rfl) | exact .inr (.inr rfl))) (ca_cons (c_var (i := 1) rfl (by first | exact .inl rfl | exact .inr (.inl rfl) | exact .inr (.inr rfl))) (ca_cons (c_var (i := 2) rfl (by first | exact .inl rfl | exact .inr (.inl rfl) | exact .inr (.inr rfl))) ca_nil)))))
  (cs_cons (c_set (i := 3) nd rfl (by first | exact .inl rfl | exact .inr rfl) (c_newN (c_disp ca_nil)) (hf := by first | exact .inl rfl | exact .inr rfl))
  (cs_cons (c_for own_cx rfl (ci_seq c_stuck) (cg_tup rfl (cg_cons (cg_name (i := 4) nd rfl (by first | exact .inl rfl | exact .inr rfl) (by first | exact .inl rfl | exact .inr rfl)) (cg_cons (cg_name (i := 5) nd rfl (by first | exact .inl rfl | exact .inr rfl) (by first | exact .inl rfl | exact .inr rfl)) cg_nil))) (cs_cons (c_set (i := 6) nd rfl (by first | exact .inl rfl | exact .inr rfl) c_stuck (hf := by first | exact .inl rfl | exact .inr rfl))
  (cs_one (c_ifS (ct_cmp c_isnot_op (c_var (i := 6) rfl (by first | exact .inl rfl | exact .inr (.inl rfl) | exact .inr (.inr rfl))) c_non (by first | rfl | kernel_rfl)) (cs_one (c_expr (c_append (c_var (i := 3) rfl (by first | exact .inl rfl | exact .inr (.inl rfl) | exact .inr (.inr rfl))) (c_tup (ca_cons (c_callB cc_len (by first | rfl | kernel_rfl) g.z_len (by decide +kernel) (ca_cons (c_var (i := 6) rfl (by first | exact .inl rfl | exact .inr (.inl rfl) | exact .inr (.inr rfl))) ca_nil)) (ca_cons (c_var (i := 6) rfl (by first | exact .inl rfl | exact .inr (.inl rfl) | exact .inr (.inr rfl))) (ca_cons (c_var (i := 4) rfl (by first | exact .inl rfl | exact .inr (.inl rfl) | exact .inr (.inr rfl))) (ca_cons (c_var (i := 5) rfl (by first | exact .inl rfl | exact .inr (.inl rfl) | exact .inr (.inr rfl))) ca_nil))))))))
  cs_nil))))
  (cs_cons (c_ifS (ct_not (c_tr (c_var (i := 3) rfl (by first | exact .inl rfl | exact .inr (.inl rfl) | exact .inr (.inr rfl))))) (cs_one (c_ret c_non))
  cs_nil)
  (cs_cons (c_asg (c_callB (cc_min rfl) (by first | rfl | kernel_rfl) g.z_min (by decide +kernel) (ca_cons (c_var (i := 3) rfl (by first | exact .inl rfl | exact .inr (.inl rfl) | exact .inr (.inr rfl))) ca_nil)) (cg_tup rfl (cg_cons (cg_name (i := 7) nd rfl (by first | exact .inl rfl | exact .inr rfl) (by first | exact .inl rfl | exact .inr rfl)) (cg_cons (cg_name (i := 6) nd rfl (by first | exact .inl rfl | exact .inr rfl) (by first | exact .inl rfl | exact .inr rfl)) (cg_cons (cg_name (i := 4) nd rfl (by first | exact .inl rfl | exact .inr rfl) (by first | exact .inl rfl | exact .inr rfl)) (cg_cons (cg_name (i := 5) nd rfl (by first | exact .inl rfl | exact .inr rfl) (by first | exact .inl rfl | exact .inr rfl)) cg_nil))))) (by first | rfl | kernel_rfl) (by first | rfl | kernel_rfl) (by first | rfl | kernel_rfl))
  (cs_one (c_ret (c_tup (ca_cons (c_var (i := 6) rfl (by first | exact .inl rfl | exact .inr (.inl rfl) | exact .inr (.inr rfl))) (ca_cons (c_var (i := 4) rfl (by first | exact .inl rfl | exact .inr (.inl rfl) | exact .inr (.inr rfl))) (ca_cons (c_var (i := 5) rfl (by first | exact .inl rfl | exact .inr (.inl rfl) | exact .inr (.inr rfl))) (ca_cons c_stuck (ca_cons c_stuck ca_nil)))))))))))))
abbrev s_first_wrong : Stmt := top 112
def N_first_wrong : List Str := ["way", "wish", "many", "found", "one", "result", "sights", "_"]
def g_first_wrong : SD.Env → Mem → SRes := (fSeq (fExpr (fFn 3 m_check_watch (fCons (fVar 0) (fCons (fVar 1) (fCons (fVar 2) fNil)))))
  (fSeq (fAsg (fNew (fLim fNil)) (aName 3))
  (fSeq (fFor (fItB gZip (fCons fStuck (fCons (fVar 1) fNil))) (aTup 2 (aCons (aName 4) (aCons (aName 5) aNil))) (fSeq (fAsg fStuck (aName 6))
  (fIfS (fBl (fBin gIsNot (fVar 6) (fC .non))) (fExpr (fM1 gAppend (fVar 3) (fTup (fCons (fCall gLen (fCons (fVar 6) fNil)) (fCons (fVar 6) (fCons (fVar 4) fNil))))))
  fNext)))
  (fSeq (fIfS (fNotT (fTr (fVar 3))) (fRet (fC .non))
  fNext)
  (fSeq (fAsg (fCall gMin (fCons (fVar 3) fNil)) (aTup 3 (aCons (aName 7) (aCons (aName 6) (aCons (aName 4) aNil)))))
  (fRet (fTup (fCons (fVar 6) (fCons (fVar 4) fNil)))))))))
def m_first_wrong : List D → Mem → Res D := SD.mOf 8 (g_first_wrong)
theorem b_first_wrong (g : Gx K mg) {f : Addr} (F_check_watch : DefOk P w K mg base Tb 10 "check_watch" 3 m_check_watch) (cdv : Value) (A : Around) (outer : List PySem.Env) (s : Shared) (H : Hp) (E : XK) (hr : Room 10 (A.deeper (envOfC "first_wrong" (defScope s_first_wrong) s.heap.objs.size f cdv))) :
    PSs (cxOf (L2.CX P w) P w K mg base N_first_wrong "first_wrong" (defScope s_first_wrong) f cdv A outer s H E) (defBody s_first_wrong) (TSc K (plainS Tb) (WX0 E) (g_first_wrong)) := by
  have nd : N_first_wrong.Nodup := by decide
  have hu := hr.units
  unfold g_first_wrong
  exact (cs_cons (c_expr (c_call F_check_watch hr (by decide) (by first | rfl | kernel_rfl) tk_cx (ca_cons (c_var (i := 0) rfl (by first | exact .inl rfl | exact .inr (.inl rfl) | exact .inr (.inr rfl))) (ca_cons (c_var (i := 1) rfl (by first | exact .inl rfl | exact .inr (.inl rfl) | exact .inr (.inr rfl))) (ca_cons (c_var (i := 2) rfl (by first | exact .inl rfl | exact .inr (.inl rfl) | exact .inr (.inr rfl))) ca_nil)))))
  (cs_cons (c_set (i := 3) nd rfl (by first | exact .inl rfl | exact .inr rfl) (c_newN (c_disp ca_nil)) (hf := by first | exact .inl rfl | exact .inr rfl))
  (cs_cons (c_for own_cx rfl (ci_zip (by first | rfl | kernel_rfl) g.z_zip (ca_cons c_stuck (ca_cons (c_var (i := 1) rfl (by first | exact .inl rfl | exact .inr (.inl rfl) | exact .inr (.inr rfl))) ca_nil))) (cg_tup rfl (cg_cons (cg_name (i := 4) nd rfl (by first | exact .inl rfl | exact .inr rfl) (by first | exact .inl rfl | exact .inr rfl)) (cg_cons (cg_name (i := 5) nd rfl (by first | exact .inl rfl | exact .inr rfl) (by first | exact .inl rfl | exact .inr rfl)) cg_nil))) (cs_cons (c_set (i := 6) nd rfl (by first | exact .inl rfl | exact .inr rfl) c_stuck (hf := by first | exact .inl rfl | exact .inr rfl))
  (cs_one (c_ifS (ct_cmp c_isnot_op (c_var (i := 6) rfl (by first | exact .inl rfl | exact .inr (.inl rfl) | exact .inr (.inr rfl))) c_non (by first | rfl | kernel_rfl)) (cs_one (c_expr (c_append (c_var (i := 3) rfl (by first | exact .inl rfl | exact .inr (.inl rfl) | exact .inr (.inr rfl))) (c_tup (ca_cons (c_callB cc_len (by first | rfl | kernel_rfl) g.z_len (by decide +kernel) (ca_cons (c_var (i := 6) rfl (by first | exact .inl rfl | exact .inr (.inl rfl) | exact .inr (.inr rfl))) ca_nil)) (ca_cons (c_var (i := 6) rfl (by first | exact .inl rfl | exact .inr (.inl rfl) | exact .inr (.inr rfl))) (ca_cons (c_var (i := 4) rfl (by first | exact .inl rfl | exact .inr (.inl rfl) | exact .inr (.inr rfl))) ca_nil)))))))
  cs_nil))))
  (cs_cons (c_ifS (ct_not (c_tr (c_var (i := 3) rfl (by first | exact .inl rfl | exact .inr (.inl rfl) | exact .inr (.inr rfl))))) (cs_one (c_ret c_non))
  cs_nil)
  (cs_cons (c_asg (c_callB (cc_min rfl) (by first | rfl | kernel_rfl) g.z_min (by decide +kernel) (ca_cons (c_var (i := 3) rfl (by first | exact .inl rfl | exact .inr (.inl rfl) | exact .inr (.inr rfl))) ca_nil)) (cg_tup rfl (cg_cons (cg_name (i := 7) nd rfl (by first | exact .inl rfl | exact .inr rfl) (by first | exact .inl rfl | exact .inr rfl)) (cg_cons (cg_name (i := 6) nd rfl (by first | exact .inl rfl | exact .inr rfl) (by first | exact .inl rfl | exact .inr rfl)) (cg_cons (cg_name (i := 4) nd rfl (by first | exact .inl rfl | exact .inr rfl) (by first | exact .inl rfl | exact .inr rfl)) cg_nil)))) (by first | rfl | kernel_rfl) (by first | rfl | kernel_rfl) (by first | rfl | kernel_rfl))
  (cs_one (c_ret (c_tup (ca_cons (c_var (i := 6) rfl (by first | exact .inl rfl | exact .inr (.inl rfl) | exact .inr (.inr rfl))) (ca_cons (c_var (i := 4) rfl (by first | exact .inl rfl | exact .inr (.inl rfl) | exact .inr (.inr rfl))) ca_nil))))))))))
abbrev s_check_hand : Stmt := top 84
def N_check_hand : List Str := ["way", "one", "coins", "coin"]
def g_check_hand : SD.Env → Mem → SRes := (fSeq (fExpr (fFn 1 m_check_way (fCons (fVar 0) fNil)))
  (fSeq (fExpr (fFn 2 m_check_input (fCons (fVar 0) (fCons (fVar 1) fNil))))
  (fIfS (fOrT (fNotT (fTr (fFn 3 m_is_tuple (fCons (fVar 2) (fCons (fC (.int 0)) (fCons (fC (.int 100)) fNil)))))) (fNotT (fTr (fCall gAll (fCons (fLst (fComp (fIt (fVar 2)) [3] (aName 3) (fun _ M => .ok true M) (fFn 3 m_is_number (fCons (fVar 3) (fCons (fC (.int 0)) (fCons (fC (.int 839)) fNil)))))) fNil))))) (fun ρ M => .exn ⟨"BadCoins", []⟩ ρ M)
  fNext)))
def m_check_hand : List D → Mem → Res D := SD.mOf 4 (g_check_hand)
theorem b_check_hand (g : Gx K mg) {f : Addr} (F_check_way : DefOk P w K mg base Tb 9 "check_way" 1 m_check_way) (F_check_input : DefOk P w K mg base Tb 4 "check_input" 2 m_check_input) (F_is_tuple : DefOk P w K mg base Tb 1 "is_tuple" 3 m_is_tuple) (F_is_number : DefOk P w K mg base Tb 2 "is_number" 3 m_is_number) (cdv : Value) (A : Around) (outer : List PySem.Env) (s : Shared) (H : Hp) (E : XK) (hr : Room 9 (A.deeper (envOfC "check_hand" (defScope s_check_hand) s.heap.objs.size f cdv))) :
    PSs (cxOf (L2.CX P w) P w K mg base N_check_hand "check_hand" (defScope s_check_hand) f cdv A outer s H E) (defBody s_check_hand) (TSc K (plainS Tb) (WX0 E) (g_check_hand)) := by
  have nd : N_check_hand.Nodup := by decide
  have hu := hr.units
  unfold g_check_hand
  exact (cs_cons (c_expr (c_call F_check_way hr (by decide) (by first | rfl | kernel_rfl) tk_cx (ca_cons (c_var (i := 0) rfl (by first | exact .inl rfl | exact .inr (.inl rfl) | exact .inr (.inr rfl))) ca_nil)))
  (cs_cons (c_expr (c_call F_check_input hr (by decide) (by first | rfl | kernel_rfl) tk_cx (ca_cons (c_var (i := 0) rfl (by first | exact .inl rfl | exact .inr (.inl rfl) | exact .inr (.inr rfl))) (ca_cons (c_var (i := 1) rfl (by first | exact .inl rfl | exact .inr (.inl rfl) | exact .inr (.inr rfl))) ca_nil))))
  (cs_one (c_ifS (PW.pt (cw_or (ct_not (c_tr (c_call F_is_tuple hr (by decide) (by first | rfl | kernel_rfl) tk_cx (ca_cons (c_var (i := 2) rfl (by first | exact .inl rfl | exact .inr (.inl rfl) | exact .inr (.inr rfl))) (ca_cons c_int (ca_cons (c_glob (by first | rfl | kernel_rfl) g.c_MOST_COINS) ca_nil)))))) (cw_or1 (ct_not (c_tr (c_callB (cc_all rfl) (by first | rfl | kernel_rfl) g.z_all (by decide +kernel) (ca_cons (c_lstN (c_lc rfl nd (own := [("coin", 3)]) (ix := [3]) (ci_seq (c_var (i := 2) rfl (by first | exact .inl rfl | exact .inr (.inl rfl) | exact .inr (.inr rfl)))) (blk_of (by first | rfl | kernel_rfl)) (by decide) (fun _ _ _ _ _ => (cg_name (i := 3) nd rfl (by first | exact .inl rfl | exact .inr rfl) (by first | exact .inl rfl | exact .inr rfl))) (fun _ _ _ _ _ => cts_nil) (fun _ _ _ _ _ => (c_call F_is_number hr (by decide) (by first | rfl | kernel_rfl) takes0 (ca_cons (c_var (i := 3) rfl (by first | exact .inl rfl | exact .inr (.inl rfl) | exact .inr (.inr rfl))) (ca_cons c_int (ca_cons (c_glob (by first | rfl | kernel_rfl) g.c_HIGHEST_COIN) ca_nil))))))) ca_nil))))))) (cs_one (c_raise0 rfl tk_cx g.e_BadCoins (by first | rfl | kernel_rfl) g.x_BadCoins))
  cs_nil))))
abbrev s_hand : Stmt := top 82
def N_hand : List Str := ["way", "one", "coins", "sights", "end", "row", "_"]
def g_hand : SD.Env → Mem → SRes := (fSeq (fExpr (fFn 3 m_check_hand (fCons (fVar 0) (fCons (fVar 1) (fCons (fVar 2) fNil)))))
  (fSeq (fAsg fStuck (aTup 4 (aCons (aName 3) (aCons (aName 4) (aCons (aName 5) (aCons (aName 6) aNil))))))
  (fRet (fTup (fCons (fVar 3) (fCons (fVar 4) (fCons (fVar 5) fNil)))))))
def m_hand : List D → Mem → Res D := SD.mOf 7 (g_hand)
theorem b_hand (g : Gx K mg) {f : Addr} (F_check_hand : DefOk P w K mg base Tb 10 "check_hand" 3 m_check_hand) (cdv : Value) (A : Around) (outer : List PySem.Env) (s : Shared) (H : Hp) (E : XK) (hr : Room 10 (A.deeper (envOfC "hand" (defScope s_hand) s.heap.objs.size f cdv))) :
    PSs (cxOf (L2.CX P w) P w K mg base N_hand "hand" (defScope s_hand) f cdv A outer s H E) (defBody s_hand) (TSc K (plainS Tb) (WX0 E) (g_hand)) := by
  have nd : N_hand.Nodup := by decide
  have hu := hr.units
  unfold g_hand
  exact (cs_cons (c_expr (c_call F_check_hand hr (by decide) (by first | rfl | kernel_rfl) tk_cx (ca_cons (c_var (i := 0) rfl (by first | exact .inl rfl | exact .inr (.inl rfl) | exact .inr (.inr rfl))) (ca_cons (c_var (i := 1) rfl (by first | exact .inl rfl | exact .inr (.inl rfl) | exact .inr (.inr rfl))) (ca_cons (c_var (i := 2) rfl (by first | exact .inl rfl | exact .inr (.inl rfl) | exact .inr (.inr rfl))) ca_nil)))))
  (cs_cons (c_asg c_stuck (cg_tup rfl (cg_cons (cg_name (i := 3) nd rfl (by first | exact .inl rfl | exact .inr rfl) (by first | exact .inl rfl | exact .inr rfl)) (cg_cons (cg_name (i := 4) nd rfl (by first | exact .inl rfl | exact .inr rfl) (by first | exact .inl rfl | exact .inr rfl)) (cg_cons (cg_name (i := 5) nd rfl (by first | exact .inl rfl | exact .inr rfl) (by first | exact .inl rfl | exact .inr rfl)) (cg_cons (cg_name (i := 6) nd rfl (by first | exact .inl rfl | exact .inr rfl) (by first | exact .inl rfl | exact .inr rfl)) cg_nil))))) (by first | rfl | kernel_rfl) (by first | rfl | kernel_rfl) (by first | rfl | kernel_rfl))
  (cs_one (c_ret (c_tup (ca_cons (c_var (i := 3) rfl (by first | exact .inl rfl | exact .inr (.inl rfl) | exact .inr (.inr rfl))) (ca_cons (c_var (i := 4) rfl (by first | exact .inl rfl | exact .inr (.inl rfl) | exact .inr (.inr rfl))) (ca_cons (c_var (i := 5) rfl (by first | exact .inl rfl | exact .inr (.inl rfl) | exact .inr (.inr rfl))) ca_nil))))))))
abbrev s_shuffles_passed : Stmt := top 83
def N_shuffles_passed : List Str := ["way", "one", "coins"]
def g_shuffles_passed : SD.Env → Mem → SRes := (fSeq (fExpr (fFn 3 m_check_hand (fCons (fVar 0) (fCons (fVar 1) (fCons (fVar 2) fNil)))))
  (fRet (fBin gIx fStuck (fC (.int 3)))))
def m_shuffles_passed : List D → Mem → Res D := SD.mOf 3 (g_shuffles_passed)
theorem b_shuffles_passed (g : Gx K mg) {f : Addr} (F_check_hand : DefOk P w K mg base Tb 10 "check_hand" 3 m_check_hand) (cdv : Value) (A : Around) (outer : List PySem.Env) (s : Shared) (H : Hp) (E : XK) (hr : Room 10 (A.deeper (envOfC "shuffles_passed" (defScope s_shuffles_passed) s.heap.objs.size f cdv))) :
    PSs (cxOf (L2.CX P w) P w K mg base N_shuffles_passed "shuffles_passed" (defScope s_shuffles_passed) f cdv A outer s H E) (defBody s_shuffles_passed) (TSc K (plainS Tb) (WX0 E) (g_shuffles_passed)) := by
  have nd : N_shuffles_passed.Nodup := by decide
  have hu := hr.units
  unfold g_shuffles_passed
  exact (cs_cons (c_expr (c_call F_check_hand hr (by decide) (by first | rfl | kernel_rfl) tk_cx (ca_cons (c_var (i := 0) rfl (by first | exact .inl rfl | exact .inr (.inl rfl) | exact .inr (.inr rfl))) (ca_cons (c_var (i := 1) rfl (by first | exact .inl rfl | exact .inr (.inl rfl) | exact .inr (.inr rfl))) (ca_cons (c_var (i := 2) rfl (by first | exact .inl rfl | exact .inr (.inl rfl) | exact .inr (.inr rfl))) ca_nil)))))
  (cs_one (c_ret (c_ix c_stuck c_int))))
abbrev s_best_guess : Stmt := top 113
def N_best_guess : List Str := ["way", "one", "other", "many"]
def g_best_guess : SD.Env → Mem → SRes := (fSeq (fExpr (fFn 1 m_check_way (fCons (fVar 0) fNil)))
  (fSeq (fExpr (fFn 2 m_check_input (fCons (fVar 0) (fCons (fVar 1) fNil))))
  (fSeq (fExpr (fFn 2 m_check_input (fCons (fVar 0) (fCons (fVar 2) fNil))))
  (fSeq (fExpr (fFn 1 m_check_many (fCons (fVar 3) fNil)))
  (fRet fStuck)))))
def m_best_guess : List D → Mem → Res D := SD.mOf 4 (g_best_guess)
theorem b_best_guess (g : Gx K mg) {f : Addr} (F_check_way : DefOk P w K mg base Tb 9 "check_way" 1 m_check_way) (F_check_input : DefOk P w K mg base Tb 4 "check_input" 2 m_check_input) (F_check_many : DefOk P w K mg base Tb 3 "check_many" 1 m_check_many) (cdv : Value) (A : Around) (outer : List PySem.Env) (s : Shared) (H : Hp) (E : XK) (hr : Room 9 (A.deeper (envOfC "best_guess" (defScope s_best_guess) s.heap.objs.size f cdv))) :
    PSs (cxOf (L2.CX P w) P w K mg base N_best_guess "best_guess" (defScope s_best_guess) f cdv A outer s H E) (defBody s_best_guess) (TSc K (plainS Tb) (WX0 E) (g_best_guess)) := by
  have nd : N_best_guess.Nodup := by decide
  have hu := hr.units
  unfold g_best_guess
  exact (cs_cons (c_expr (c_call F_check_way hr (by decide) (by first | rfl | kernel_rfl) tk_cx (ca_cons (c_var (i := 0) rfl (by first | exact .inl rfl | exact .inr (.inl rfl) | exact .inr (.inr rfl))) ca_nil)))
  (cs_cons (c_expr (c_call F_check_input hr (by decide) (by first | rfl | kernel_rfl) tk_cx (ca_cons (c_var (i := 0) rfl (by first | exact .inl rfl | exact .inr (.inl rfl) | exact .inr (.inr rfl))) (ca_cons (c_var (i := 1) rfl (by first | exact .inl rfl | exact .inr (.inl rfl) | exact .inr (.inr rfl))) ca_nil))))
  (cs_cons (c_expr (c_call F_check_input hr (by decide) (by first | rfl | kernel_rfl) tk_cx (ca_cons (c_var (i := 0) rfl (by first | exact .inl rfl | exact .inr (.inl rfl) | exact .inr (.inr rfl))) (ca_cons (c_var (i := 2) rfl (by first | exact .inl rfl | exact .inr (.inl rfl) | exact .inr (.inr rfl))) ca_nil))))
  (cs_cons (c_expr (c_call F_check_many hr (by decide) (by first | rfl | kernel_rfl) tk_cx (ca_cons (c_var (i := 3) rfl (by first | exact .inl rfl | exact .inr (.inl rfl) | exact .inr (.inr rfl))) ca_nil)))
  (cs_one (c_ret c_stuck))))))
abbrev s_law : Stmt := top 133
def N_law : List Str := ["script", "row", "good", "wish", "some", "bad", "word", "told", "ask", "value", "one", "other"]
def g_law : SD.Env → Mem → SRes := (fSeq (fAsg (fNew (fLim (fCons (fVar 0) (fCons (fC (.int 0)) (fCons (fC (.int 21009)) (fCons (fC (.int 0)) fNil)))))) (aName 1))
  (fSeq (fAsg (fTup (fCons (fTup (fCons (fC (.int 1)) (fCons (fTup fNil) (fCons (fTup (fCons (fTup (fCons (fC (.str "lay")) (fCons (fTup (fCons (fTup (fCons (fC (.int 0)) (fCons (fC (.int 1)) fNil))) fNil)) fNil))) fNil)) fNil)))) (fCons (fTup (fCons (fTup (fCons (fC (.int 0)) fNil)) (fCons (fTup (fCons (fC (.int 1)) fNil)) fNil))) fNil))) (aTup 2 (aCons (aName 2) (aCons (aName 3) aNil))))
  (fSeq (fAsg (fLst (fLim (fCons (fTup (fCons (fC .non) (fCons (fC (.str "formnone")) fNil))) (fCons (fTup (fCons (fLst (fLim (fCons (fC (.int 1)) (fCons (fTup fNil) (fCons (fTup (fCons (fTup (fCons (fC (.str "tell")) (fCons (fTup (fCons (fC (.int 0)) fNil)) fNil))) fNil)) fNil))))) (fCons (fC (.str "formnone")) fNil))) (fCons (fTup (fCons (fTup (fCons (fC (.int 4)) (fCons (fTup fNil) (fCons (fTup (fCons (fTup (fCons (fC (.str "tell")) (fCons (fTup (fCons (fC (.int 0)) fNil)) fNil))) fNil)) fNil)))) (fCons (fC (.str "bitsnone")) fNil))) (fCons (fTup (fCons (fTup (fCons (fC (.int 1)) (fCons (fTup (fCons (fC (.int 2)) fNil)) (fCons (fTup (fCons (fTup (fCons (fC (.str "tell")) (fCons (fTup (fCons (fC (.int 0)) fNil)) fNil))) fNil)) fNil)))) (fCons (fC (.str "helpsnone")) fNil))) fNil)))))) (aName 4))
  (fSeq (fAsg (fBin gAdd (fVar 4) (fLst (fLim (fCons (fTup (fCons (fTup (fCons (fC (.int 1)) (fCons (fTup fNil) (fCons (fTup fNil) fNil)))) (fCons (fC (.str "nodesnone")) fNil))) (fCons (fTup (fCons (fTup (fCons (fC (.int 1)) (fCons (fTup fNil) (fCons (fTup (fCons (fTup (fCons (fC (.str "tell")) (fCons (fTup (fCons (fC (.int 0)) fNil)) fNil))) (fCons (fTup (fCons (fC (.str "lay")) (fCons (fTup (fCons (fTup (fCons (fC (.int 0)) (fCons (fC (.int 2)) fNil))) fNil)) fNil))) fNil))) fNil)))) (fCons (fC (.str "node1")) fNil))) (fCons (fTup (fCons (fTup (fCons (fC (.int 1)) (fCons (fTup fNil) (fCons (fTup (fCons (fTup (fCons (fC (.str "tell")) (fCons (fTup (fCons (fC (.int 0)) fNil)) fNil))) (fCons (fTup (fCons (fC (.str "tell")) (fCons (fTup (fCons (fC (.int 0)) (fCons (fC (.int 1)) fNil))) fNil))) fNil))) fNil)))) (fCons (fC (.str "endsnone")) fNil))) fNil)))))) (aName 4))
  (fSeq (fAsg (fFn 2 m__law_pick (fCons (fVar 1) (fCons (fBin gAdd (fVar 4) (fLst (fLim (fCons (fTup (fCons (fTup (fCons (fC (.int 1)) (fCons (fTup fNil) (fCons (fTup (fCons (fTup (fCons (fC (.str "tell")) (fCons (fTup (fCons (fC (.int 0)) fNil)) fNil))) (fCons (fTup (fCons (fC (.str "lay")) (fCons (fTup (fCons (fTup (fCons (fC (.int 0)) (fCons (fC (.int 1)) fNil))) fNil)) fNil))) fNil))) fNil)))) (fCons (fC (.str "endsnone")) fNil))) (fCons (fTup (fCons (fTup (fCons (fC (.int 1)) (fCons (fTup fNil) (fCons (fTup (fCons (fTup (fCons (fC (.str "move")) (fCons (fTup (fCons (fC (.int 0)) (fCons (fC (.int 0)) fNil))) (fCons (fC (.int 0)) fNil)))) fNil)) fNil)))) (fCons (fC (.str "node0")) fNil))) fNil))))) fNil))) (aTup 2 (aCons (aName 5) (aCons (aName 6) aNil))))
  (fSeq (fIfS (fOrT (fBl (fBin gIsNotB (fFn 1 m_is_way (fCons (fVar 5) fNil)) (fC (.bl false)))) (fBl (fBin gIsNotB (fFn 1 m_is_way (fCons (fVar 2) fNil)) (fC (.bl true))))) (fRet (fC (.bl false)))
  fNext)
  (fSeq (fAsg (fNew (fComp (fIt (fLst (fLim (fCons (fC (.fn "inputs")) (fCons (fC (.fn "written")) fNil))))) [8] (aName 8) (fun _ M => .ok true M) (fun ρ M => runAct 2 g__law_word ((fCallV [("inputs", 1, m_inputs), ("written", 1, m_written)] (fVar 8) (fCons (fVar 5) fNil)) ρ) M))) (aName 7))
  (fSeq (fAsg (fNew (fAddN (fVar 7) (fLst (fComp (fIt (fLst (fLim (fCons (fC (.fn "first_row")) (fCons (fC (.fn "is_sound")) (fCons (fC (.fn "sound_table")) (fCons (fC (.fn "ends_surely")) (fCons (fC (.fn "mean_turns")) (fCons (fC (.fn "mean_shuffles")) fNil))))))))) [8] (aName 8) (fun _ M => .ok true M) (fun ρ M => runAct 2 g__law_word ((fCallV [("first_row", 2, m_first_row), ("mean_turns", 2, m_mean_turns), ("mean_shuffles", 2, m_mean_shuffles), ("is_sound", 2, m_is_sound), ("sound_table", 2, m_sound_table), ("ends_surely", 2, m_ends_surely)] (fVar 8) (fCons (fVar 5) (fCons (fC .non) fNil))) ρ) M))))) (aName 7))
  (fSeq (fAsg (fNew (fAddN (fVar 7) (fLst (fComp (fIt (fLst (fLim (fCons (fC (.fn "shows_sound")) (fCons (fC (.fn "sight_chance")) (fCons (fC (.fn "first_leak")) (fCons (fC (.fn "first_wrong")) (fCons (fC (.fn "hand")) (fCons (fC (.fn "shuffles_passed")) fNil))))))))) [8] (aName 8) (fun _ M => .ok true M) (fun ρ M => runAct 2 g__law_word ((fCallV [("shows_sound", 3, m_shows_sound), ("sight_chance", 3, m_sight_chance), ("first_leak", 3, m_first_leak), ("first_wrong", 3, m_first_wrong), ("hand", 3, m_hand), ("shuffles_passed", 3, m_shuffles_passed)] (fVar 8) (fCons (fVar 5) (fCons (fC .non) (fCons (fC .non) fNil)))) ρ) M))))) (aName 7))
  (fSeq (fExpr (fM1 gAppend (fVar 7) (fun ρ M => runAct 2 g__law_word ((fFn 4 m_best_guess (fCons (fVar 5) (fCons (fC .non) (fCons (fC .non) (fCons (fC .non) fNil))))) ρ) M)))
  (fSeq (fIfS (fBl (fBin gNe (fVar 7) (fBin gMul (fLst (fLim (fCons (fVar 6) fNil))) (fC (.int 15))))) (fRet (fC (.bl false)))
  fNext)
  (fSeq (fAsg (fNew (fComp (fIt (fLst (fLim (fCons (fTup (fCons (fC (.fn "is_sound")) (fCons (fTup (fCons (fTup (fCons (fC (.int 0)) fNil)) fNil)) fNil))) (fCons (fTup (fCons (fC (.fn "sound_table")) (fCons (fC .non) fNil))) (fCons (fTup (fCons (fC (.fn "ends_surely")) (fCons (fTup (fCons (fTup (fCons (fC (.int 0)) fNil)) (fCons (fTup (fCons (fC (.int 2)) fNil)) fNil))) fNil))) fNil)))))) [8, 9] (aTup 2 (aCons (aName 8) (aCons (aName 9) aNil))) (fun _ M => .ok true M) (fun ρ M => runAct 2 g__law_word ((fCallV [("first_row", 2, m_first_row), ("mean_turns", 2, m_mean_turns), ("mean_shuffles", 2, m_mean_shuffles), ("is_sound", 2, m_is_sound), ("sound_table", 2, m_sound_table), ("ends_surely", 2, m_ends_surely)] (fVar 8) (fCons (fVar 2) (fCons (fVar 9) fNil))) ρ) M))) (aName 7))
  (fSeq (fAsg (fNew (fAddN (fVar 7) (fLst (fComp (fIt (fLst (fLim (fCons (fC (.fn "shows_sound")) (fCons (fC (.fn "first_leak")) (fCons (fC (.fn "first_wrong")) fNil)))))) [8] (aName 8) (fun _ M => .ok true M) (fun ρ M => runAct 2 g__law_word ((fCallV [("shows_sound", 3, m_shows_sound), ("sight_chance", 3, m_sight_chance), ("first_leak", 3, m_first_leak), ("first_wrong", 3, m_first_wrong), ("hand", 3, m_hand), ("shuffles_passed", 3, m_shuffles_passed)] (fVar 8) (fCons (fVar 2) (fCons (fTup (fCons (fTup (fCons (fC (.int 0)) fNil)) (fCons (fTup (fCons (fC (.int 0)) (fCons (fC (.int 1)) fNil))) fNil))) (fCons (fC .non) fNil)))) ρ) M))))) (aName 7))
  (fSeq (fIfS (fBl (fBin gNe (fVar 7) (fBin gMul (fLst (fLim (fCons (fC (.str "wish")) fNil))) (fC (.int 6))))) (fRet (fC (.bl false)))
  fNext)
  (fSeq (fAsg (fNew (fComp (fIt (fLst (fLim (fCons (fC (.fn "first_row")) (fCons (fC (.fn "mean_turns")) (fCons (fC (.fn "mean_shuffles")) fNil)))))) [8] (aName 8) (fun _ M => .ok true M) (fun ρ M => runAct 2 g__law_word ((fCallV [("first_row", 2, m_first_row), ("mean_turns", 2, m_mean_turns), ("mean_shuffles", 2, m_mean_shuffles), ("is_sound", 2, m_is_sound), ("sound_table", 2, m_sound_table), ("ends_surely", 2, m_ends_surely)] (fVar 8) (fCons (fVar 2) (fCons (fTup (fCons (fC (.int 2)) fNil)) fNil))) ρ) M))) (aName 7))
  (fSeq (fAsg (fNew (fAddN (fVar 7) (fLst (fComp (fIt (fLst (fLim (fCons (fC (.fn "sight_chance")) (fCons (fC (.fn "hand")) (fCons (fC (.fn "shuffles_passed")) fNil)))))) [8] (aName 8) (fun _ M => .ok true M) (fun ρ M => runAct 2 g__law_word ((fCallV [("shows_sound", 3, m_shows_sound), ("sight_chance", 3, m_sight_chance), ("first_leak", 3, m_first_leak), ("first_wrong", 3, m_first_wrong), ("hand", 3, m_hand), ("shuffles_passed", 3, m_shuffles_passed)] (fVar 8) (fCons (fVar 2) (fCons (fC .non) (fCons (fC .non) fNil)))) ρ) M))))) (aName 7))
  (fSeq (fAsg (fNew (fAddN (fVar 7) (fLst (fComp (fIt (fLst (fLim (fCons (fTup (fCons (fTup (fCons (fC (.int 2)) fNil)) (fCons (fTup (fCons (fC (.int 0)) fNil)) fNil))) (fCons (fTup (fCons (fTup (fCons (fC (.int 0)) fNil)) (fCons (fTup (fCons (fC (.int 0)) (fCons (fC (.int 0)) fNil))) fNil))) fNil))))) [10, 11] (aTup 2 (aCons (aName 10) (aCons (aName 11) aNil))) (fun _ M => .ok true M) (fun ρ M => runAct 2 g__law_word ((fFn 4 m_best_guess (fCons (fVar 2) (fCons (fVar 10) (fCons (fVar 11) (fCons (fC .non) fNil))))) ρ) M))))) (aName 7))
  (fSeq (fIfS (fBl (fBin gNe (fVar 7) (fBin gMul (fLst (fLim (fCons (fC (.str "input")) fNil))) (fC (.int 8))))) (fRet (fC (.bl false)))
  fNext)
  (fSeq (fAsg (fNew (fLim (fCons (fun ρ M => runAct 2 g__law_word ((fFn 3 m_sight_chance (fCons (fVar 2) (fCons (fTup (fCons (fC (.int 0)) fNil)) (fCons (fC .non) fNil)))) ρ) M) fNil))) (aName 7))
  (fSeq (fExpr (fM1 gAppend (fVar 7) (fun ρ M => runAct 2 g__law_word ((fFn 3 m_hand (fCons (fVar 2) (fCons (fTup (fCons (fC (.int 0)) fNil)) (fCons (fC .non) fNil)))) ρ) M)))
  (fSeq (fExpr (fM1 gAppend (fVar 7) (fun ρ M => runAct 2 g__law_word ((fFn 4 m_best_guess (fCons (fVar 2) (fCons (fTup (fCons (fC (.int 0)) fNil)) (fCons (fTup (fCons (fC (.int 1)) fNil)) (fCons (fC (.int 7)) fNil))))) ρ) M)))
  (fSeq (fExpr (fM1 gAppend (fVar 7) (fun ρ M => runAct 2 g__law_word ((fFn 3 m_first_leak (fCons (fVar 2) (fCons (fVar 3) (fCons (fC .non) fNil)))) ρ) M)))
  (fRet (fAnd (fBin gEq (fVar 7) (fLst (fLim (fCons (fC (.str "sights")) (fCons (fC (.str "coins")) (fCons (fC (.str "number")) (fCons (fC (.str "number")) fNil))))))) (fBin gIsB (fFn 3 m_shows_sound (fCons (fVar 2) (fCons (fVar 3) (fCons (fC .non) fNil)))) (fC (.bl false)))))))))))))))))))))))))))
def m_law : List D → Mem → Res D := SD.mOf 12 (g_law)
theorem b_law (g : Gx K mg) {f : Addr} (F__law_pick : DefOk P w K mg base Tb 2 "_law_pick" 2 m__law_pick) (F_is_way : DefOk P w K mg base Tb 9 "is_way" 1 m_is_way) (F_inputs : DefOk P w K mg base Tb 10 "inputs" 1 m_inputs) (F_written : DefOk P w K mg base Tb 10 "written" 1 m_written) (F_first_row : DefOk P w K mg base Tb 10 "first_row" 2 m_first_row) (F_is_sound : DefOk P w K mg base Tb 11 "is_sound" 2 m_is_sound) (F_sound_table : DefOk P w K mg base Tb 10 "sound_table" 2 m_sound_table) (F_ends_surely : DefOk P w K mg base Tb 10 "ends_surely" 2 m_ends_surely) (F_mean_turns : DefOk P w K mg base Tb 10 "mean_turns" 2 m_mean_turns) (F_mean_shuffles : DefOk P w K mg base Tb 10 "mean_shuffles" 2 m_mean_shuffles) (F_shows_sound : DefOk P w K mg base Tb 10 "shows_sound" 3 m_shows_sound) (F_sight_chance : DefOk P w K mg base Tb 10 "sight_chance" 3 m_sight_chance) (F_first_leak : DefOk P w K mg base Tb 11 "first_leak" 3 m_first_leak) (F_first_wrong : DefOk P w K mg base Tb 11 "first_wrong" 3 m_first_wrong) (F_hand : DefOk P w K mg base Tb 11 "hand" 3 m_hand) (F_shuffles_passed : DefOk P w K mg base Tb 11 "shuffles_passed" 3 m_shuffles_passed) (F_best_guess : DefOk P w K mg base Tb 10 "best_guess" 4 m_best_guess) (T__law_word : ToldOk P w K mg base Tb "_law_word" 2 g__law_word) {c0 Pt : Addr} (TB : LamX.TabB base mg c0 Pt) (hmT : (Pt, (envOfC "law" (defScope s_law) 0 0 (.ref c0)).qual ++ "<lambda>") ∈ Tb) (hu2 : ∀ p ∈ Tb, p.1 = Pt → p.2 = (envOfC "law" (defScope s_law) 0 0 (.ref c0)).qual ++ "<lambda>") (A : Around) (outer : List PySem.Env) (s : Shared) (H : Hp) (E : XK) (hr : Room 13 (A.deeper (envOfC "law" (defScope s_law) s.heap.objs.size f (.ref c0)))) :
    PSs (cxOf (L2.CX P w) P w K mg base N_law "law" (defScope s_law) f (.ref c0) A outer s H E) (defBody s_law) (TSc K (plainS Tb) (WX0 E) (g_law)) := by
  have nd : N_law.Nodup := by decide
  have hu := hr.units
  unfold g_law
  exact (cs_cons (c_set (i := 1) nd rfl (by first | exact .inl rfl | exact .inr rfl) (c_newN (c_disp (ca_cons (c_var (i := 0) rfl (by first | exact .inl rfl | exact .inr (.inl rfl) | exact .inr (.inr rfl))) (ca_cons c_int (ca_cons c_int (ca_cons c_int ca_nil)))))) (hf := by first | exact .inl rfl | exact .inr rfl))
  (cs_cons (c_asg (c_tup (ca_cons (c_tup (ca_cons c_int (ca_cons (c_tup ca_nil) (ca_cons (c_tup (ca_cons (c_tup (ca_cons c_str (ca_cons (c_tup (ca_cons (c_tup (ca_cons c_int (ca_cons c_int ca_nil))) ca_nil)) ca_nil))) ca_nil)) ca_nil)))) (ca_cons (c_tup (ca_cons (c_tup (ca_cons c_int ca_nil)) (ca_cons (c_tup (ca_cons c_int ca_nil)) ca_nil))) ca_nil))) (cg_tup rfl (cg_cons (cg_name (i := 2) nd rfl (by first | exact .inl rfl | exact .inr rfl) (by first | exact .inl rfl | exact .inr rfl)) (cg_cons (cg_name (i := 3) nd rfl (by first | exact .inl rfl | exact .inr rfl) (by first | exact .inl rfl | exact .inr rfl)) cg_nil))) (by first | rfl | kernel_rfl) (by first | rfl | kernel_rfl) (by first | rfl | kernel_rfl))
  (cs_cons (c_set (i := 4) nd rfl (by first | exact .inl rfl | exact .inr rfl) (c_lstN (c_disp (ca_cons (c_tup (ca_cons c_non (ca_cons c_str ca_nil))) (ca_cons (c_tup (ca_cons (c_lstN (c_disp (ca_cons c_int (ca_cons (c_tup ca_nil) (ca_cons (c_tup (ca_cons (c_tup (ca_cons c_str (ca_cons (c_tup (ca_cons c_int ca_nil)) ca_nil))) ca_nil)) ca_nil))))) (ca_cons c_str ca_nil))) (ca_cons (c_tup (ca_cons (c_tup (ca_cons c_int (ca_cons (c_tup ca_nil) (ca_cons (c_tup (ca_cons (c_tup (ca_cons c_str (ca_cons (c_tup (ca_cons c_int ca_nil)) ca_nil))) ca_nil)) ca_nil)))) (ca_cons c_str ca_nil))) (ca_cons (c_tup (ca_cons (c_tup (ca_cons c_int (ca_cons (c_tup (ca_cons c_int ca_nil)) (ca_cons (c_tup (ca_cons (c_tup (ca_cons c_str (ca_cons (c_tup (ca_cons c_int ca_nil)) ca_nil))) ca_nil)) ca_nil)))) (ca_cons c_str ca_nil))) ca_nil)))))) (hf := by first | exact .inl rfl | exact .inr rfl))
  (cs_cons (c_set (i := 4) nd rfl (by first | exact .inl rfl | exact .inr rfl) (c_bin c_add_op (c_var (i := 4) rfl (by first | exact .inl rfl | exact .inr (.inl rfl) | exact .inr (.inr rfl))) (c_lstN (c_disp (ca_cons (c_tup (ca_cons (c_tup (ca_cons c_int (ca_cons (c_tup ca_nil) (ca_cons (c_tup ca_nil) ca_nil)))) (ca_cons c_str ca_nil))) (ca_cons (c_tup (ca_cons (c_tup (ca_cons c_int (ca_cons (c_tup ca_nil) (ca_cons (c_tup (ca_cons (c_tup (ca_cons c_str (ca_cons (c_tup (ca_cons c_int ca_nil)) ca_nil))) (ca_cons (c_tup (ca_cons c_str (ca_cons (c_tup (ca_cons (c_tup (ca_cons c_int (ca_cons c_int ca_nil))) ca_nil)) ca_nil))) ca_nil))) ca_nil)))) (ca_cons c_str ca_nil))) (ca_cons (c_tup (ca_cons (c_tup (ca_cons c_int (ca_cons (c_tup ca_nil) (ca_cons (c_tup (ca_cons (c_tup (ca_cons c_str (ca_cons (c_tup (ca_cons c_int ca_nil)) ca_nil))) (ca_cons (c_tup (ca_cons c_str (ca_cons (c_tup (ca_cons c_int (ca_cons c_int ca_nil))) ca_nil))) ca_nil))) ca_nil)))) (ca_cons c_str ca_nil))) ca_nil)))))) (hf := by first | exact .inl rfl | exact .inr rfl))
  (cs_cons (c_asg (c_call F__law_pick hr (by decide) (by first | rfl | kernel_rfl) tk_cx (ca_cons (c_var (i := 1) rfl (by first | exact .inl rfl | exact .inr (.inl rfl) | exact .inr (.inr rfl))) (ca_cons (c_bin c_add_op (c_var (i := 4) rfl (by first | exact .inl rfl | exact .inr (.inl rfl) | exact .inr (.inr rfl))) (c_lstN (c_disp (ca_cons (c_tup (ca_cons (c_tup (ca_cons c_int (ca_cons (c_tup ca_nil) (ca_cons (c_tup (ca_cons (c_tup (ca_cons c_str (ca_cons (c_tup (ca_cons c_int ca_nil)) ca_nil))) (ca_cons (c_tup (ca_cons c_str (ca_cons (c_tup (ca_cons (c_tup (ca_cons c_int (ca_cons c_int ca_nil))) ca_nil)) ca_nil))) ca_nil))) ca_nil)))) (ca_cons c_str ca_nil))) (ca_cons (c_tup (ca_cons (c_tup (ca_cons c_int (ca_cons (c_tup ca_nil) (ca_cons (c_tup (ca_cons (c_tup (ca_cons c_str (ca_cons (c_tup (ca_cons c_int (ca_cons c_int ca_nil))) (ca_cons c_int ca_nil)))) ca_nil)) ca_nil)))) (ca_cons c_str ca_nil))) ca_nil))))) ca_nil))) (cg_tup rfl (cg_cons (cg_name (i := 5) nd rfl (by first | exact .inl rfl | exact .inr rfl) (by first | exact .inl rfl | exact .inr rfl)) (cg_cons (cg_name (i := 6) nd rfl (by first | exact .inl rfl | exact .inr rfl) (by first | exact .inl rfl | exact .inr rfl)) cg_nil))) (by first | rfl | kernel_rfl) (by first | rfl | kernel_rfl) (by first | rfl | kernel_rfl))
  (cs_cons (c_ifS (PW.pt (cw_or (ct_cmp c_isnotB_op (c_call F_is_way hr (by decide) (by first | rfl | kernel_rfl) tk_cx (ca_cons (c_var (i := 5) rfl (by first | exact .inl rfl | exact .inr (.inl rfl) | exact .inr (.inr rfl))) ca_nil)) c_bl (by first | rfl | kernel_rfl)) (cw_or1 (ct_cmp c_isnotB_op (c_call F_is_way hr (by decide) (by first | rfl | kernel_rfl) tk_cx (ca_cons (c_var (i := 2) rfl (by first | exact .inl rfl | exact .inr (.inl rfl) | exact .inr (.inr rfl))) ca_nil)) c_bl (by first | rfl | kernel_rfl))))) (cs_one (c_ret c_bl))
  cs_nil)
  (cs_cons (c_setLcN (i := 7) rfl nd rfl (by first | rfl | kernel_rfl) (by first | rfl | kernel_rfl) (own := [("ask", 8)]) (ix := [8]) (ci_seq (c_lstN (c_disp (ca_cons (c_fnv (by first | rfl | kernel_rfl) g.f_inputs) (ca_cons (c_fnv (by first | rfl | kernel_rfl) g.f_written) ca_nil))))) (blk_of (by first | rfl | kernel_rfl)) (by decide) (fun _ _ _ _ _ => (cg_name (i := 8) nd rfl (by first | exact .inl rfl | exact .inr rfl) (by first | exact .inl rfl | exact .inr rfl))) (fun _ _ _ _ _ => cts_nil) (fun _ _ _ _ _ => (c_toldD (k := 10) T__law_word (by first | rfl | kernel_rfl) TB rfl hmT hu2 hr (by decide) (LamX.lamS_by (by first | rfl | kernel_rfl)) rfl (by intros; rfl) (fun _ _ _ _ _ _ _ hr1 => (c_callV (tab := [("inputs", 1, m_inputs), ("written", 1, m_written)]) (ft_cons F_inputs g.f_inputs (by decide) (ft_cons F_written g.f_written (by decide) ft_nil)) hr1 tk_lam (c_var (i := 8) rfl (by first | exact .inl rfl | exact .inr (.inl rfl) | exact .inr (.inr rfl))) (ca_cons (c_var (i := 5) rfl (by first | exact .inl rfl | exact .inr (.inl rfl) | exact .inr (.inr rfl))) ca_nil))))))
  (cs_cons (c_set (i := 7) nd rfl (by first | exact .inl rfl | exact .inr rfl) (c_newN (c_addN (c_var (i := 7) rfl (by first | exact .inl rfl | exact .inr (.inl rfl) | exact .inr (.inr rfl))) (c_lstN (c_lc rfl nd (own := [("ask", 8)]) (ix := [8]) (ci_seq (c_lstN (c_disp (ca_cons (c_fnv (by first | rfl | kernel_rfl) g.f_first_row) (ca_cons (c_fnv (by first | rfl | kernel_rfl) g.f_is_sound) (ca_cons (c_fnv (by first | rfl | kernel_rfl) g.f_sound_table) (ca_cons (c_fnv (by first | rfl | kernel_rfl) g.f_ends_surely) (ca_cons (c_fnv (by first | rfl | kernel_rfl) g.f_mean_turns) (ca_cons (c_fnv (by first | rfl | kernel_rfl) g.f_mean_shuffles) ca_nil))))))))) (blk_of (by first | rfl | kernel_rfl)) (by decide) (fun _ _ _ _ _ => (cg_name (i := 8) nd rfl (by first | exact .inl rfl | exact .inr rfl) (by first | exact .inl rfl | exact .inr rfl))) (fun _ _ _ _ _ => cts_nil) (fun _ _ _ _ _ => (c_toldD (k := 11) T__law_word (by first | rfl | kernel_rfl) TB rfl hmT hu2 hr (by decide) (LamX.lamS_by (by first | rfl | kernel_rfl)) rfl (by intros; rfl) (fun _ _ _ _ _ _ _ hr2 => (c_callV (tab := [("first_row", 2, m_first_row), ("mean_turns", 2, m_mean_turns), ("mean_shuffles", 2, m_mean_shuffles), ("is_sound", 2, m_is_sound), ("sound_table", 2, m_sound_table), ("ends_surely", 2, m_ends_surely)]) (ft_cons F_first_row g.f_first_row (by decide) (ft_cons F_mean_turns g.f_mean_turns (by decide) (ft_cons F_mean_shuffles g.f_mean_shuffles (by decide) (ft_cons F_is_sound g.f_is_sound (by decide) (ft_cons F_sound_table g.f_sound_table (by decide) (ft_cons F_ends_surely g.f_ends_surely (by decide) ft_nil)))))) hr2 tk_lam (c_var (i := 8) rfl (by first | exact .inl rfl | exact .inr (.inl rfl) | exact .inr (.inr rfl))) (ca_cons (c_var (i := 5) rfl (by first | exact .inl rfl | exact .inr (.inl rfl) | exact .inr (.inr rfl))) (ca_cons c_non ca_nil)))))))))) (hf := by first | exact .inl rfl | exact .inr rfl))
  (cs_cons (c_set (i := 7) nd rfl (by first | exact .inl rfl | exact .inr rfl) (c_newN (c_addN (c_var (i := 7) rfl (by first | exact .inl rfl | exact .inr (.inl rfl) | exact .inr (.inr rfl))) (c_lstN (c_lc rfl nd (own := [("ask", 8)]) (ix := [8]) (ci_seq (c_lstN (c_disp (ca_cons (c_fnv (by first | rfl | kernel_rfl) g.f_shows_sound) (ca_cons (c_fnv (by first | rfl | kernel_rfl) g.f_sight_chance) (ca_cons (c_fnv (by first | rfl | kernel_rfl) g.f_first_leak) (ca_cons (c_fnv (by first | rfl | kernel_rfl) g.f_first_wrong) (ca_cons (c_fnv (by first | rfl | kernel_rfl) g.f_hand) (ca_cons (c_fnv (by first | rfl | kernel_rfl) g.f_shuffles_passed) ca_nil))))))))) (blk_of (by first | rfl | kernel_rfl)) (by decide) (fun _ _ _ _ _ => (cg_name (i := 8) nd rfl (by first | exact .inl rfl | exact .inr rfl) (by first | exact .inl rfl | exact .inr rfl))) (fun _ _ _ _ _ => cts_nil) (fun _ _ _ _ _ => (c_toldD (k := 11) T__law_word (by first | rfl | kernel_rfl) TB rfl hmT hu2 hr (by decide) (LamX.lamS_by (by first | rfl | kernel_rfl)) rfl (by intros; rfl) (fun _ _ _ _ _ _ _ hr3 => (c_callV (tab := [("shows_sound", 3, m_shows_sound), ("sight_chance", 3, m_sight_chance), ("first_leak", 3, m_first_leak), ("first_wrong", 3, m_first_wrong), ("hand", 3, m_hand), ("shuffles_passed", 3, m_shuffles_passed)]) (ft_cons F_shows_sound g.f_shows_sound (by decide) (ft_cons F_sight_chance g.f_sight_chance (by decide) (ft_cons F_first_leak g.f_first_leak (by decide) (ft_cons F_first_wrong g.f_first_wrong (by decide) (ft_cons F_hand g.f_hand (by decide) (ft_cons F_shuffles_passed g.f_shuffles_passed (by decide) ft_nil)))))) hr3 tk_lam (c_var (i := 8) rfl (by first | exact .inl rfl | exact .inr (.inl rfl) | exact .inr (.inr rfl))) (ca_cons (c_var (i := 5) rfl (by first | exact .inl rfl | exact .inr (.inl rfl) | exact .inr (.inr rfl))) (ca_cons c_non (ca_cons c_non ca_nil))))))))))) (hf := by first | exact .inl rfl | exact .inr rfl))
  (cs_cons (c_expr (c_append (c_var (i := 7) rfl (by first | exact .inl rfl | exact .inr (.inl rfl) | exact .inr (.inr rfl))) (c_toldD (k := 10) T__law_word (by first | rfl | kernel_rfl) TB rfl hmT hu2 hr (by decide) (LamX.lamS_by (by first | rfl | kernel_rfl)) rfl (by intros; rfl) (fun _ _ _ _ _ _ _ hr4 => (c_call F_best_guess hr4 (by decide) (by first | rfl | kernel_rfl) tk_lam (ca_cons (c_var (i := 5) rfl (by first | exact .inl rfl | exact .inr (.inl rfl) | exact .inr (.inr rfl))) (ca_cons c_non (ca_cons c_non (ca_cons c_non ca_nil)))))))))
  (cs_cons (c_ifS (ct_cmp (c_ne_op hu) (c_var (i := 7) rfl (by first | exact .inl rfl | exact .inr (.inl rfl) | exact .inr (.inr rfl))) (c_bin c_mul_op (c_lstN (c_disp (ca_cons (c_var (i := 6) rfl (by first | exact .inl rfl | exact .inr (.inl rfl) | exact .inr (.inr rfl))) ca_nil))) c_int) (by first | rfl | kernel_rfl)) (cs_one (c_ret c_bl))
  cs_nil)
  (cs_cons (c_setLcN (i := 7) rfl nd rfl (by first | rfl | kernel_rfl) (by first | rfl | kernel_rfl) (own := [("ask", 8), ("value", 9)]) (ix := [8, 9]) (ci_seq (c_lstN (c_disp (ca_cons (c_tup (ca_cons (c_fnv (by first | rfl | kernel_rfl) g.f_is_sound) (ca_cons (c_tup (ca_cons (c_tup (ca_cons c_int ca_nil)) ca_nil)) ca_nil))) (ca_cons (c_tup (ca_cons (c_fnv (by first | rfl | kernel_rfl) g.f_sound_table) (ca_cons c_non ca_nil))) (ca_cons (c_tup (ca_cons (c_fnv (by first | rfl | kernel_rfl) g.f_ends_surely) (ca_cons (c_tup (ca_cons (c_tup (ca_cons c_int ca_nil)) (ca_cons (c_tup (ca_cons c_int ca_nil)) ca_nil))) ca_nil))) ca_nil)))))) (blk_of (by first | rfl | kernel_rfl)) (by decide) (fun _ _ _ _ _ => (cg_tup rfl (cg_cons (cg_name (i := 8) nd rfl (by first | exact .inl rfl | exact .inr rfl) (by first | exact .inl rfl | exact .inr rfl)) (cg_cons (cg_name (i := 9) nd rfl (by first | exact .inl rfl | exact .inr rfl) (by first | exact .inl rfl | exact .inr rfl)) cg_nil)))) (fun _ _ _ _ _ => cts_nil) (fun _ _ _ _ _ => (c_toldD (k := 11) T__law_word (by first | rfl | kernel_rfl) TB rfl hmT hu2 hr (by decide) (LamX.lamS_by (by first | rfl | kernel_rfl)) rfl (by intros; rfl) (fun _ _ _ _ _ _ _ hr5 => (c_callV (tab := [("first_row", 2, m_first_row), ("mean_turns", 2, m_mean_turns), ("mean_shuffles", 2, m_mean_shuffles), ("is_sound", 2, m_is_sound), ("sound_table", 2, m_sound_table), ("ends_surely", 2, m_ends_surely)]) (ft_cons F_first_row g.f_first_row (by decide) (ft_cons F_mean_turns g.f_mean_turns (by decide) (ft_cons F_mean_shuffles g.f_mean_shuffles (by decide) (ft_cons F_is_sound g.f_is_sound (by decide) (ft_cons F_sound_table g.f_sound_table (by decide) (ft_cons F_ends_surely g.f_ends_surely (by decide) ft_nil)))))) hr5 tk_lam (c_var (i := 8) rfl (by first | exact .inl rfl | exact .inr (.inl rfl) | exact .inr (.inr rfl))) (ca_cons (c_var (i := 2) rfl (by first | exact .inl rfl | exact .inr (.inl rfl) | exact .inr (.inr rfl))) (ca_cons (c_var (i := 9) rfl (by first | exact .inl rfl | exact .inr (.inl rfl) | exact .inr (.inr rfl))) ca_nil)))))))
  (cs_cons (c_set (i := 7) nd rfl (by first | exact .inl rfl | exact .inr rfl) (c_newN (c_addN (c_var (i := 7) rfl (by first | exact .inl rfl | exact .inr (.inl rfl) | exact .inr (.inr rfl))) (c_lstN (c_lc rfl nd (own := [("ask", 8)]) (ix := [8]) (ci_seq (c_lstN (c_disp (ca_cons (c_fnv (by first | rfl | kernel_rfl) g.f_shows_sound) (ca_cons (c_fnv (by first | rfl | kernel_rfl) g.f_first_leak) (ca_cons (c_fnv (by first | rfl | kernel_rfl) g.f_first_wrong) ca_nil)))))) (blk_of (by first | rfl | kernel_rfl)) (by decide) (fun _ _ _ _ _ => (cg_name (i := 8) nd rfl (by first | exact .inl rfl | exact .inr rfl) (by first | exact .inl rfl | exact .inr rfl))) (fun _ _ _ _ _ => cts_nil) (fun _ _ _ _ _ => (c_toldD (k := 11) T__law_word (by first | rfl | kernel_rfl) TB rfl hmT hu2 hr (by decide) (LamX.lamS_by (by first | rfl | kernel_rfl)) rfl (by intros; rfl) (fun _ _ _ _ _ _ _ hr6 => (c_callV (tab := [("shows_sound", 3, m_shows_sound), ("sight_chance", 3, m_sight_chance), ("first_leak", 3, m_first_leak), ("first_wrong", 3, m_first_wrong), ("hand", 3, m_hand), ("shuffles_passed", 3, m_shuffles_passed)]) (ft_cons F_shows_sound g.f_shows_sound (by decide) (ft_cons F_sight_chance g.f_sight_chance (by decide) (ft_cons F_first_leak g.f_first_leak (by decide) (ft_cons F_first_wrong g.f_first_wrong (by decide) (ft_cons F_hand g.f_hand (by decide) (ft_cons F_shuffles_passed g.f_shuffles_passed (by decide) ft_nil)))))) hr6 tk_lam (c_var (i := 8) rfl (by first | exact .inl rfl | exact .inr (.inl rfl) | exact .inr (.inr rfl))) (ca_cons (c_var (i := 2) rfl (by first | exact .inl rfl | exact .inr (.inl rfl) | exact .inr (.inr rfl))) (ca_cons (c_tup (ca_cons (c_tup (ca_cons c_int ca_nil)) (ca_cons (c_tup (ca_cons c_int (ca_cons c_int ca_nil))) ca_nil))) (ca_cons c_non ca_nil))))))))))) (hf := by first | exact .inl rfl | exact .inr rfl))
  (cs_cons (c_ifS (ct_cmp (c_ne_op hu) (c_var (i := 7) rfl (by first | exact .inl rfl | exact .inr (.inl rfl) | exact .inr (.inr rfl))) (c_bin c_mul_op (c_lstN (c_disp (ca_cons c_str ca_nil))) c_int) (by first | rfl | kernel_rfl)) (cs_one (c_ret c_bl))
  cs_nil)
  (cs_cons (c_setLcN (i := 7) rfl nd rfl (by first | rfl | kernel_rfl) (by first | rfl | kernel_rfl) (own := [("ask", 8)]) (ix := [8]) (ci_seq (c_lstN (c_disp (ca_cons (c_fnv (by first | rfl | kernel_rfl) g.f_first_row) (ca_cons (c_fnv (by first | rfl | kernel_rfl) g.f_mean_turns) (ca_cons (c_fnv (by first | rfl | kernel_rfl) g.f_mean_shuffles) ca_nil)))))) (blk_of (by first | rfl | kernel_rfl)) (by decide) (fun _ _ _ _ _ => (cg_name (i := 8) nd rfl (by first | exact .inl rfl | exact .inr rfl) (by first | exact .inl rfl | exact .inr rfl))) (fun _ _ _ _ _ => cts_nil) (fun _ _ _ _ _ => (c_toldD (k := 11) T__law_word (by first | rfl | kernel_rfl) TB rfl hmT hu2 hr (by decide) (LamX.lamS_by (by first | rfl | kernel_rfl)) rfl (by intros; rfl) (fun _ _ _ _ _ _ _ hr7 => (c_callV (tab := [("first_row", 2, m_first_row), ("mean_turns", 2, m_mean_turns), ("mean_shuffles", 2, m_mean_shuffles), ("is_sound", 2, m_is_sound), ("sound_table", 2, m_sound_table), ("ends_surely", 2, m_ends_surely)]) (ft_cons F_first_row g.f_first_row (by decide) (ft_cons F_mean_turns g.f_mean_turns (by decide) (ft_cons F_mean_shuffles g.f_mean_shuffles (by decide) (ft_cons F_is_sound g.f_is_sound (by decide) (ft_cons F_sound_table g.f_sound_table (by decide) (ft_cons F_ends_surely g.f_ends_surely (by decide) ft_nil)))))) hr7 tk_lam (c_var (i := 8) rfl (by first | exact .inl rfl | exact .inr (.inl rfl) | exact .inr (.inr rfl))) (ca_cons (c_var (i := 2) rfl (by first | exact .inl rfl | exact .inr (.inl rfl) | exact .inr (.inr rfl))) (ca_cons (c_tup (ca_cons c_int ca_nil)) ca_nil)))))))
  (cs_cons (c_set (i := 7) nd rfl (by first | exact .inl rfl | exact .inr rfl) (c_newN (c_addN (c_var (i := 7) rfl (by first | exact .inl rfl | exact .inr (.inl rfl) | exact .inr (.inr rfl))) (c_lstN (c_lc rfl nd (own := [("ask", 8)]) (ix := [8]) (ci_seq (c_lstN (c_disp (ca_cons (c_fnv (by first | rfl | kernel_rfl) g.f_sight_chance) (ca_cons (c_fnv (by first | rfl | kernel_rfl) g.f_hand) (ca_cons (c_fnv (by first | rfl | kernel_rfl) g.f_shuffles_passed) ca_nil)))))) (blk_of (by first | rfl | kernel_rfl)) (by decide) (fun _ _ _ _ _ => (cg_name (i := 8) nd rfl (by first | exact .inl rfl | exact .inr rfl) (by first | exact .inl rfl | exact .inr rfl))) (fun _ _ _ _ _ => cts_nil) (fun _ _ _ _ _ => (c_toldD (k := 11) T__law_word (by first | rfl | kernel_rfl) TB rfl hmT hu2 hr (by decide) (LamX.lamS_by (by first | rfl | kernel_rfl)) rfl (by intros; rfl) (fun _ _ _ _ _ _ _ hr8 => (c_callV (tab := [("shows_sound", 3, m_shows_sound), ("sight_chance", 3, m_sight_chance), ("first_leak", 3, m_first_leak), ("first_wrong", 3, m_first_wrong), ("hand", 3, m_hand), ("shuffles_passed", 3, m_shuffles_passed)]) (ft_cons F_shows_sound g.f_shows_sound (by decide) (ft_cons F_sight_chance g.f_sight_chance (by decide) (ft_cons F_first_leak g.f_first_leak (by decide) (ft_cons F_first_wrong g.f_first_wrong (by decide) (ft_cons F_hand g.f_hand (by decide) (ft_cons F_shuffles_passed g.f_shuffles_passed (by decide) ft_nil)))))) hr8 tk_lam (c_var (i := 8) rfl (by first | exact .inl rfl | exact .inr (.inl rfl) | exact .inr (.inr rfl))) (ca_cons (c_var (i := 2) rfl (by first | exact .inl rfl | exact .inr (.inl rfl) | exact .inr (.inr rfl))) (ca_cons c_non (ca_cons c_non ca_nil))))))))))) (hf := by first | exact .inl rfl | exact .inr rfl))
  (cs_cons (c_set (i := 7) nd rfl (by first | exact .inl rfl | exact .inr rfl) (c_newN (c_addN (c_var (i := 7) rfl (by first | exact .inl rfl | exact .inr (.inl rfl) | exact .inr (.inr rfl))) (c_lstN (c_lc rfl nd (own := [("one", 10), ("other", 11)]) (ix := [10, 11]) (ci_seq (c_lstN (c_disp (ca_cons (c_tup (ca_cons (c_tup (ca_cons c_int ca_nil)) (ca_cons (c_tup (ca_cons c_int ca_nil)) ca_nil))) (ca_cons (c_tup (ca_cons (c_tup (ca_cons c_int ca_nil)) (ca_cons (c_tup (ca_cons c_int (ca_cons c_int ca_nil))) ca_nil))) ca_nil))))) (blk_of (by first | rfl | kernel_rfl)) (by decide) (fun _ _ _ _ _ => (cg_tup rfl (cg_cons (cg_name (i := 10) nd rfl (by first | exact .inl rfl | exact .inr rfl) (by first | exact .inl rfl | exact .inr rfl)) (cg_cons (cg_name (i := 11) nd rfl (by first | exact .inl rfl | exact .inr rfl) (by first | exact .inl rfl | exact .inr rfl)) cg_nil)))) (fun _ _ _ _ _ => cts_nil) (fun _ _ _ _ _ => (c_toldD (k := 10) T__law_word (by first | rfl | kernel_rfl) TB rfl hmT hu2 hr (by decide) (LamX.lamS_by (by first | rfl | kernel_rfl)) rfl (by intros; rfl) (fun _ _ _ _ _ _ _ hr9 => (c_call F_best_guess hr9 (by decide) (by first | rfl | kernel_rfl) tk_lam (ca_cons (c_var (i := 2) rfl (by first | exact .inl rfl | exact .inr (.inl rfl) | exact .inr (.inr rfl))) (ca_cons (c_var (i := 10) rfl (by first | exact .inl rfl | exact .inr (.inl rfl) | exact .inr (.inr rfl))) (ca_cons (c_var (i := 11) rfl (by first | exact .inl rfl | exact .inr (.inl rfl) | exact .inr (.inr rfl))) (ca_cons c_non ca_nil)))))))))))) (hf := by first | exact .inl rfl | exact .inr rfl))
  (cs_cons (c_ifS (ct_cmp (c_ne_op hu) (c_var (i := 7) rfl (by first | exact .inl rfl | exact .inr (.inl rfl) | exact .inr (.inr rfl))) (c_bin c_mul_op (c_lstN (c_disp (ca_cons c_str ca_nil))) c_int) (by first | rfl | kernel_rfl)) (cs_one (c_ret c_bl))
  cs_nil)
  (cs_cons (c_set (i := 7) nd rfl (by first | exact .inl rfl | exact .inr rfl) (c_newN (c_disp (ca_cons (c_toldD (k := 10) T__law_word (by first | rfl | kernel_rfl) TB rfl hmT hu2 hr (by decide) (LamX.lamS_by (by first | rfl | kernel_rfl)) rfl (by intros; rfl) (fun _ _ _ _ _ _ _ hr10 => (c_call F_sight_chance hr10 (by decide) (by first | rfl | kernel_rfl) tk_lam (ca_cons (c_var (i := 2) rfl (by first | exact .inl rfl | exact .inr (.inl rfl) | exact .inr (.inr rfl))) (ca_cons (c_tup (ca_cons c_int ca_nil)) (ca_cons c_non ca_nil)))))) ca_nil))) (hf := by first | exact .inl rfl | exact .inr rfl))
  (cs_cons (c_expr (c_append (c_var (i := 7) rfl (by first | exact .inl rfl | exact .inr (.inl rfl) | exact .inr (.inr rfl))) (c_toldD (k := 11) T__law_word (by first | rfl | kernel_rfl) TB rfl hmT hu2 hr (by decide) (LamX.lamS_by (by first | rfl | kernel_rfl)) rfl (by intros; rfl) (fun _ _ _ _ _ _ _ hr11 => (c_call F_hand hr11 (by decide) (by first | rfl | kernel_rfl) tk_lam (ca_cons (c_var (i := 2) rfl (by first | exact .inl rfl | exact .inr (.inl rfl) | exact .inr (.inr rfl))) (ca_cons (c_tup (ca_cons c_int ca_nil)) (ca_cons c_non ca_nil))))))))
  (cs_cons (c_expr (c_append (c_var (i := 7) rfl (by first | exact .inl rfl | exact .inr (.inl rfl) | exact .inr (.inr rfl))) (c_toldD (k := 10) T__law_word (by first | rfl | kernel_rfl) TB rfl hmT hu2 hr (by decide) (LamX.lamS_by (by first | rfl | kernel_rfl)) rfl (by intros; rfl) (fun _ _ _ _ _ _ _ hr12 => (c_call F_best_guess hr12 (by decide) (by first | rfl | kernel_rfl) tk_lam (ca_cons (c_var (i := 2) rfl (by first | exact .inl rfl | exact .inr (.inl rfl) | exact .inr (.inr rfl))) (ca_cons (c_tup (ca_cons c_int ca_nil)) (ca_cons (c_tup (ca_cons c_int ca_nil)) (ca_cons c_int ca_nil)))))))))
  (cs_cons (c_expr (c_append (c_var (i := 7) rfl (by first | exact .inl rfl | exact .inr (.inl rfl) | exact .inr (.inr rfl))) (c_toldD (k := 11) T__law_word (by first | rfl | kernel_rfl) TB rfl hmT hu2 hr (by decide) (LamX.lamS_by (by first | rfl | kernel_rfl)) rfl (by intros; rfl) (fun _ _ _ _ _ _ _ hr13 => (c_call F_first_leak hr13 (by decide) (by first | rfl | kernel_rfl) tk_lam (ca_cons (c_var (i := 2) rfl (by first | exact .inl rfl | exact .inr (.inl rfl) | exact .inr (.inr rfl))) (ca_cons (c_var (i := 3) rfl (by first | exact .inl rfl | exact .inr (.inl rfl) | exact .inr (.inr rfl))) (ca_cons c_non ca_nil))))))))
  (cs_one (c_ret (c_and (c_cmp (c_eq_op hu) (c_var (i := 7) rfl (by first | exact .inl rfl | exact .inr (.inl rfl) | exact .inr (.inr rfl))) (c_lstN (c_disp (ca_cons c_str (ca_cons c_str (ca_cons c_str (ca_cons c_str ca_nil)))))) (by first | rfl | kernel_rfl)) (c_one (c_cmp c_isB_op (c_call F_shows_sound hr (by decide) (by first | rfl | kernel_rfl) tk_cx (ca_cons (c_var (i := 2) rfl (by first | exact .inl rfl | exact .inr (.inl rfl) | exact .inr (.inr rfl))) (ca_cons (c_var (i := 3) rfl (by first | exact .inl rfl | exact .inr (.inl rfl) | exact .inr (.inr rfl))) (ca_cons c_non ca_nil)))) c_bl (by first | rfl | kernel_rfl))))))))))))))))))))))))))))
end KK

set_option Elab.async false
set_option linter.all false
set_option maxRecDepth 100000
set_option maxHeartbeats 4000000
namespace KK
open PySem PySem.Spec PyProof.Rows L2 SD
/-- the drawing row: script, place, mixer, rest -/
abbrev row (ns : List Int) (i s r : Int) : AO := .lst [.scr (ns.map D.int), .int i, .int s, .int r]
structure RowOk (i s r : Int) : Prop where
  i0 : 0 ≤ i
  s0 : 0 ≤ s
  s1 : s < 2147483647
  r0 : 0 ≤ r
theorem gt_int (i j : Int) (M : Mem) : gGt (.int i) (.int j) M = .ok (.bl (decide (j < i))) M := by
  simp [gGt, gCmp, toPy, toPy0, okLt, SeqAt.shaped, PySem.W.alike, PyData.depth, PySem.W.dataLt_int, notNone]
theorem ge_int (i j : Int) (M : Mem) : gGe (.int i) (.int j) M = .ok (.bl (decide (j ≤ i))) M := by
  simp [gGe, gCmp, toPy, toPy0, okLt, SeqAt.shaped, PySem.W.alike, PyData.depth, PySem.W.dataLt_int, notNone]
  by_cases h : i < j
  · rw [decide_eq_true h, decide_eq_false (by omega)]; rfl
  · rw [decide_eq_false h, decide_eq_true (by omega)]; rfl
theorem Res.bind_ok {α β : Type} (a : α) (M : Mem) (k : α → Mem → Res β) : (Res.ok a M).bind k = k a M := rfl
theorem Res.toS_ok {α : Type} (a : α) (M : Mem) (ρ : SD.Env) (k : α → Mem → SRes) : (Res.ok a M).toS ρ k = k a M := rfl
theorem SRes.bind_nx (ρ : SD.Env) (M : Mem) (k : SD.Env → Mem → SRes) : (SRes.nx ρ M).bind k = k ρ M := rfl
theorem SRes.bind_rt (d : D) (M : Mem) (k : SD.Env → Mem → SRes) : (SRes.rt d M).bind k = .rt d M := rfl
/-- an item of the row -/
theorem ix_row {M : Mem} {n : Nat} {ds : List D} (h : M[n]? = some (.lst ds)) (k : Nat) {d : D} (hd : ds[k]? = some d) : gIx (.ref n) (.int (k : Int)) M = .ok d M := by
  have hl : k < ds.length := (List.getElem?_eq_some_iff.mp hd).1
  have e : atI ds (k : Int) = some d := by
    unfold atI ixN
    have := (List.getElem?_eq_some_iff.mp hd).2
    simp [hl, this]
  simp [gIx, seqOf, lstOf, h, e]
theorem row_at {M : Mem} {n : Nat} {o : AO} (h : M[n]? = some o) (o' : AO) : (M.set n o')[n]? = some o' := List.getElem?_set_self (List.getElem?_eq_some_iff.mp h).1
theorem ixs3 {M : Mem} {n : Nat} {o : AO} (h : M[n]? = some o) (ns : List Int) (i s r : Int) : gIx (.ref n) (.int 3) (M.set n (row ns i s r)) = .ok (.int r) (M.set n (row ns i s r)) := ix_row (row_at h _) 3 rfl
theorem ixs2 {M : Mem} {n : Nat} {o : AO} (h : M[n]? = some o) (ns : List Int) (i s r : Int) : gIx (.ref n) (.int 2) (M.set n (row ns i s r)) = .ok (.int s) (M.set n (row ns i s r)) := ix_row (row_at h _) 2 rfl
theorem ixs1 {M : Mem} {n : Nat} {o : AO} (h : M[n]? = some o) (ns : List Int) (i s r : Int) : gIx (.ref n) (.int 1) (M.set n (row ns i s r)) = .ok (.int i) (M.set n (row ns i s r)) := ix_row (row_at h _) 1 rfl
theorem ixs0 {M : Mem} {n : Nat} {o : AO} (h : M[n]? = some o) (ns : List Int) (i s r : Int) : gIx (.ref n) (.int 0) (M.set n (row ns i s r)) = .ok (.scr (ns.map D.int)) (M.set n (row ns i s r)) := ix_row (row_at h _) 0 rfl
theorem set3 {M : Mem} {n : Nat} {o : AO} (h : M[n]? = some o) (ns : List Int) (i s r v : Int) : setAt (M.set n (row ns i s r)) (.ref n) (.int 3) (.int v) = some (M.set n (row ns i s v)) := by simp [setAt, row_at h, ixN]
theorem set2 {M : Mem} {n : Nat} {o : AO} (h : M[n]? = some o) (ns : List Int) (i s r v : Int) : setAt (M.set n (row ns i s r)) (.ref n) (.int 2) (.int v) = some (M.set n (row ns i v r)) := by simp [setAt, row_at h, ixN]
theorem set1 {M : Mem} {n : Nat} {ns : List Int} {i s r : Int} (h : M[n]? = some (row ns i s r)) (v : Int) : setAt M (.ref n) (.int 1) (.int v) = some (M.set n (row ns v s r)) := by simp [setAt, h, ixN]
theorem ix_scr {ns : List Int} {j : Int} {z : Int} (h0 : 0 ≤ j) (h : ns[j.toNat]? = some z) (M : Mem) : gIx (.scr (ns.map D.int)) (.int j) M = .ok (.int z) M := by
  have hl : j.toNat < ns.length := (List.getElem?_eq_some_iff.mp h).1
  have e : atI (ns.map D.int) j = some (.int z) := by
    unfold atI ixN
    have e2 := (List.getElem?_eq_some_iff.mp h).2
    simp [show ¬ j < 0 by omega, show j < (ns.length : Int) by omega, show 0 ≤ j from h0, e2, hl]
  simp [gIx, seqOf, e]
theorem taken {M : Mem} {n : Nat} {ns : List Int} {i s r many : Int} (h : M[n]? = some (row ns i s r)) (k : RowOk i s r) (hm : 1 ≤ many) (hm2 : many < 1073741824) (hl : ns.length ≤ 63) :
    ∃ v i' s' r', m__law_taken [.ref n, .int many] M = .ok (.int v) (M.set n (row ns i' s' r')) ∧ 0 ≤ v ∧ v < many ∧ RowOk i' s' r' := by
  have h3 : gIx (.ref n) (.int 3) M = .ok (.int r) M := ix_row h 3 rfl
  have h2 : gIx (.ref n) (.int 2) M = .ok (.int s) M := ix_row h 2 rfl
  have h1 : gIx (.ref n) (.int 1) M = .ok (.int i) M := ix_row h 1 rfl
  have h0 : gIx (.ref n) (.int 0) M = .ok (.scr (ns.map D.int)) M := ix_row h 0 rfl
  by_cases hr : 0 < r
  · refine ⟨r % many, i, s, r / many, ?_, Int.emod_nonneg _ (by omega), Int.emod_lt_of_pos _ (by omega), k.i0, k.s0, k.s1, Int.ediv_nonneg k.r0 (by omega)⟩
    unfold m__law_taken SD.mOf g__law_taken
    simp [fSeq, fIfS, fBl, fBin, fVar, fC, startE, Res.bind_ok, Res.toS_ok, h3, gt_int, hr, fAsg, fCall, fCons, fNil, gInt, gMod, aName, SRes.bind_nx, fSetIx, gDiv, setAt, h, fRet, ixN, SRes.bind_rt, show 0 < many by omega, hm2, row]
  · have hr0 : r = 0 := by have := k.r0; omega
    subst hr0
    have m0 : 0 < many := by omega
    by_cases hi : (ns.length : Int) < i + 1
    · refine ⟨((s * 48271 + 11) % 2147483647 / 7) % many, i + 1, (s * 48271 + 11) % 2147483647, 0, ?_, Int.emod_nonneg _ (by omega), Int.emod_lt_of_pos _ (by omega), by have := k.i0; omega, Int.emod_nonneg _ (by omega), Int.emod_lt_of_pos _ (by omega), Int.le_refl _⟩
      unfold m__law_taken SD.mOf g__law_taken
      simp [fSeq, fIfS, fBl, fBin, fVar, fC, startE, Res.bind_ok, Res.toS_ok, h3, h1, gt_int, fAsg, fCall, fCons, fNil, gInt, gMod, aName, SRes.bind_nx, fSetIx, gDiv, set1 h, set2 h, ixs0 h, ixs1 h, ixs2 h, ixs3 h, gAdd, gMul, gLen, seqOf, fRet, SRes.bind_rt, m0, hm2, fNext, hi]
    · have hk : i.toNat < ns.length := by have := k.i0; omega
      have hz : ns[i.toNat]? = some (ns[i.toNat]) := List.getElem?_eq_getElem hk
      generalize ns[i.toNat] = z at hz
      have hx := fun M => ix_scr (j := i) k.i0 hz M
      have e10 : ∀ M, gPow (.int 10) (.int 18) M = .ok (.int 1000000000000000000) M := fun M => by simp [gPow]
      by_cases hb : 1000000000000000000 ≤ z
      · refine ⟨z % many, i + 1, (s * 48271 + z + 11) % 2147483647, z / many, ?_, Int.emod_nonneg _ (by omega), Int.emod_lt_of_pos _ (by omega), by have := k.i0; omega, Int.emod_nonneg _ (by omega), Int.emod_lt_of_pos _ (by omega), Int.ediv_nonneg (by omega) (by omega)⟩
        unfold m__law_taken SD.mOf g__law_taken
        simp [fSeq, fIfS, fBl, fBin, fVar, fC, startE, Res.bind_ok, Res.toS_ok, h3, h1, gt_int, ge_int, fAsg, fCall, fCons, fNil, gInt, gMod, aName, SRes.bind_nx, fSetIx, gDiv, set1 h, set2 h, set3 h, ixs0 h, ixs1 h, ixs2 h, ixs3 h, gAdd, SD.gSub, gMul, gLen, seqOf, fRet, SRes.bind_rt, m0, hm2, fNext, hi, hx, e10, hb]
      · refine ⟨z % many, i + 1, (s * 48271 + z + 11) % 2147483647, 0, ?_, Int.emod_nonneg _ (by omega), Int.emod_lt_of_pos _ (by omega), by have := k.i0; omega, Int.emod_nonneg _ (by omega), Int.emod_lt_of_pos _ (by omega), Int.le_refl _⟩
        unfold m__law_taken SD.mOf g__law_taken
        simp [fSeq, fIfS, fBl, fBin, fVar, fC, startE, Res.bind_ok, Res.toS_ok, h3, h1, gt_int, ge_int, fAsg, fCall, fCons, fNil, gInt, gMod, aName, SRes.bind_nx, fSetIx, gDiv, set1 h, set2 h, set3 h, ixs0 h, ixs1 h, ixs2 h, ixs3 h, gAdd, SD.gSub, gMul, gLen, seqOf, fRet, SRes.bind_rt, m0, hm2, fNext, hi, hx, e10, hb]
end KK

set_option Elab.async false
set_option linter.all false
set_option maxRecDepth 1000000
set_option maxHeartbeats 0
namespace KK
open PySem PySem.Spec PyProof.Rows L2 SD
def lawG (p : List D → Mem → Res D) : SD.Env → Mem → SRes := (fSeq (fAsg (fNew (fLim (fCons (fVar 0) (fCons (fC (.int 0)) (fCons (fC (.int 21009)) (fCons (fC (.int 0)) fNil)))))) (aName 1))
  (fSeq (fAsg (fTup (fCons (fTup (fCons (fC (.int 1)) (fCons (fTup fNil) (fCons (fTup (fCons (fTup (fCons (fC (.str "lay")) (fCons (fTup (fCons (fTup (fCons (fC (.int 0)) (fCons (fC (.int 1)) fNil))) fNil)) fNil))) fNil)) fNil)))) (fCons (fTup (fCons (fTup (fCons (fC (.int 0)) fNil)) (fCons (fTup (fCons (fC (.int 1)) fNil)) fNil))) fNil))) (aTup 2 (aCons (aName 2) (aCons (aName 3) aNil))))
  (fSeq (fAsg (fLst (fLim (fCons (fTup (fCons (fC .non) (fCons (fC (.str "formnone")) fNil))) (fCons (fTup (fCons (fLst (fLim (fCons (fC (.int 1)) (fCons (fTup fNil) (fCons (fTup (fCons (fTup (fCons (fC (.str "tell")) (fCons (fTup (fCons (fC (.int 0)) fNil)) fNil))) fNil)) fNil))))) (fCons (fC (.str "formnone")) fNil))) (fCons (fTup (fCons (fTup (fCons (fC (.int 4)) (fCons (fTup fNil) (fCons (fTup (fCons (fTup (fCons (fC (.str "tell")) (fCons (fTup (fCons (fC (.int 0)) fNil)) fNil))) fNil)) fNil)))) (fCons (fC (.str "bitsnone")) fNil))) (fCons (fTup (fCons (fTup (fCons (fC (.int 1)) (fCons (fTup (fCons (fC (.int 2)) fNil)) (fCons (fTup (fCons (fTup (fCons (fC (.str "tell")) (fCons (fTup (fCons (fC (.int 0)) fNil)) fNil))) fNil)) fNil)))) (fCons (fC (.str "helpsnone")) fNil))) fNil)))))) (aName 4))
  (fSeq (fAsg (fBin gAdd (fVar 4) (fLst (fLim (fCons (fTup (fCons (fTup (fCons (fC (.int 1)) (fCons (fTup fNil) (fCons (fTup fNil) fNil)))) (fCons (fC (.str "nodesnone")) fNil))) (fCons (fTup (fCons (fTup (fCons (fC (.int 1)) (fCons (fTup fNil) (fCons (fTup (fCons (fTup (fCons (fC (.str "tell")) (fCons (fTup (fCons (fC (.int 0)) fNil)) fNil))) (fCons (fTup (fCons (fC (.str "lay")) (fCons (fTup (fCons (fTup (fCons (fC (.int 0)) (fCons (fC (.int 2)) fNil))) fNil)) fNil))) fNil))) fNil)))) (fCons (fC (.str "node1")) fNil))) (fCons (fTup (fCons (fTup (fCons (fC (.int 1)) (fCons (fTup fNil) (fCons (fTup (fCons (fTup (fCons (fC (.str "tell")) (fCons (fTup (fCons (fC (.int 0)) fNil)) fNil))) (fCons (fTup (fCons (fC (.str "tell")) (fCons (fTup (fCons (fC (.int 0)) (fCons (fC (.int 1)) fNil))) fNil))) fNil))) fNil)))) (fCons (fC (.str "endsnone")) fNil))) fNil)))))) (aName 4))
  (fSeq (fAsg (fFn 2 p (fCons (fVar 1) (fCons (fBin gAdd (fVar 4) (fLst (fLim (fCons (fTup (fCons (fTup (fCons (fC (.int 1)) (fCons (fTup fNil) (fCons (fTup (fCons (fTup (fCons (fC (.str "tell")) (fCons (fTup (fCons (fC (.int 0)) fNil)) fNil))) (fCons (fTup (fCons (fC (.str "lay")) (fCons (fTup (fCons (fTup (fCons (fC (.int 0)) (fCons (fC (.int 1)) fNil))) fNil)) fNil))) fNil))) fNil)))) (fCons (fC (.str "endsnone")) fNil))) (fCons (fTup (fCons (fTup (fCons (fC (.int 1)) (fCons (fTup fNil) (fCons (fTup (fCons (fTup (fCons (fC (.str "move")) (fCons (fTup (fCons (fC (.int 0)) (fCons (fC (.int 0)) fNil))) (fCons (fC (.int 0)) fNil)))) fNil)) fNil)))) (fCons (fC (.str "node0")) fNil))) fNil))))) fNil))) (aTup 2 (aCons (aName 5) (aCons (aName 6) aNil))))
  (fSeq (fIfS (fOrT (fBl (fBin gIsNotB (fFn 1 m_is_way (fCons (fVar 5) fNil)) (fC (.bl false)))) (fBl (fBin gIsNotB (fFn 1 m_is_way (fCons (fVar 2) fNil)) (fC (.bl true))))) (fRet (fC (.bl false)))
  fNext)
  (fSeq (fAsg (fNew (fComp (fIt (fLst (fLim (fCons (fC (.fn "inputs")) (fCons (fC (.fn "written")) fNil))))) [8] (aName 8) (fun _ M => .ok true M) (fun ρ M => runAct 2 g__law_word ((fCallV [("inputs", 1, m_inputs), ("written", 1, m_written)] (fVar 8) (fCons (fVar 5) fNil)) ρ) M))) (aName 7))
  (fSeq (fAsg (fNew (fAddN (fVar 7) (fLst (fComp (fIt (fLst (fLim (fCons (fC (.fn "first_row")) (fCons (fC (.fn "is_sound")) (fCons (fC (.fn "sound_table")) (fCons (fC (.fn "ends_surely")) (fCons (fC (.fn "mean_turns")) (fCons (fC (.fn "mean_shuffles")) fNil))))))))) [8] (aName 8) (fun _ M => .ok true M) (fun ρ M => runAct 2 g__law_word ((fCallV [("first_row", 2, m_first_row), ("mean_turns", 2, m_mean_turns), ("mean_shuffles", 2, m_mean_shuffles), ("is_sound", 2, m_is_sound), ("sound_table", 2, m_sound_table), ("ends_surely", 2, m_ends_surely)] (fVar 8) (fCons (fVar 5) (fCons (fC .non) fNil))) ρ) M))))) (aName 7))
  (fSeq (fAsg (fNew (fAddN (fVar 7) (fLst (fComp (fIt (fLst (fLim (fCons (fC (.fn "shows_sound")) (fCons (fC (.fn "sight_chance")) (fCons (fC (.fn "first_leak")) (fCons (fC (.fn "first_wrong")) (fCons (fC (.fn "hand")) (fCons (fC (.fn "shuffles_passed")) fNil))))))))) [8] (aName 8) (fun _ M => .ok true M) (fun ρ M => runAct 2 g__law_word ((fCallV [("shows_sound", 3, m_shows_sound), ("sight_chance", 3, m_sight_chance), ("first_leak", 3, m_first_leak), ("first_wrong", 3, m_first_wrong), ("hand", 3, m_hand), ("shuffles_passed", 3, m_shuffles_passed)] (fVar 8) (fCons (fVar 5) (fCons (fC .non) (fCons (fC .non) fNil)))) ρ) M))))) (aName 7))
  (fSeq (fExpr (fM1 gAppend (fVar 7) (fun ρ M => runAct 2 g__law_word ((fFn 4 m_best_guess (fCons (fVar 5) (fCons (fC .non) (fCons (fC .non) (fCons (fC .non) fNil))))) ρ) M)))
  (fSeq (fIfS (fBl (fBin gNe (fVar 7) (fBin gMul (fLst (fLim (fCons (fVar 6) fNil))) (fC (.int 15))))) (fRet (fC (.bl false)))
  fNext)
  (fSeq (fAsg (fNew (fComp (fIt (fLst (fLim (fCons (fTup (fCons (fC (.fn "is_sound")) (fCons (fTup (fCons (fTup (fCons (fC (.int 0)) fNil)) fNil)) fNil))) (fCons (fTup (fCons (fC (.fn "sound_table")) (fCons (fC .non) fNil))) (fCons (fTup (fCons (fC (.fn "ends_surely")) (fCons (fTup (fCons (fTup (fCons (fC (.int 0)) fNil)) (fCons (fTup (fCons (fC (.int 2)) fNil)) fNil))) fNil))) fNil)))))) [8, 9] (aTup 2 (aCons (aName 8) (aCons (aName 9) aNil))) (fun _ M => .ok true M) (fun ρ M => runAct 2 g__law_word ((fCallV [("first_row", 2, m_first_row), ("mean_turns", 2, m_mean_turns), ("mean_shuffles", 2, m_mean_shuffles), ("is_sound", 2, m_is_sound), ("sound_table", 2, m_sound_table), ("ends_surely", 2, m_ends_surely)] (fVar 8) (fCons (fVar 2) (fCons (fVar 9) fNil))) ρ) M))) (aName 7))
  (fSeq (fAsg (fNew (fAddN (fVar 7) (fLst (fComp (fIt (fLst (fLim (fCons (fC (.fn "shows_sound")) (fCons (fC (.fn "first_leak")) (fCons (fC (.fn "first_wrong")) fNil)))))) [8] (aName 8) (fun _ M => .ok true M) (fun ρ M => runAct 2 g__law_word ((fCallV [("shows_sound", 3, m_shows_sound), ("sight_chance", 3, m_sight_chance), ("first_leak", 3, m_first_leak), ("first_wrong", 3, m_first_wrong), ("hand", 3, m_hand), ("shuffles_passed", 3, m_shuffles_passed)] (fVar 8) (fCons (fVar 2) (fCons (fTup (fCons (fTup (fCons (fC (.int 0)) fNil)) (fCons (fTup (fCons (fC (.int 0)) (fCons (fC (.int 1)) fNil))) fNil))) (fCons (fC .non) fNil)))) ρ) M))))) (aName 7))
  (fSeq (fIfS (fBl (fBin gNe (fVar 7) (fBin gMul (fLst (fLim (fCons (fC (.str "wish")) fNil))) (fC (.int 6))))) (fRet (fC (.bl false)))
  fNext)
  (fSeq (fAsg (fNew (fComp (fIt (fLst (fLim (fCons (fC (.fn "first_row")) (fCons (fC (.fn "mean_turns")) (fCons (fC (.fn "mean_shuffles")) fNil)))))) [8] (aName 8) (fun _ M => .ok true M) (fun ρ M => runAct 2 g__law_word ((fCallV [("first_row", 2, m_first_row), ("mean_turns", 2, m_mean_turns), ("mean_shuffles", 2, m_mean_shuffles), ("is_sound", 2, m_is_sound), ("sound_table", 2, m_sound_table), ("ends_surely", 2, m_ends_surely)] (fVar 8) (fCons (fVar 2) (fCons (fTup (fCons (fC (.int 2)) fNil)) fNil))) ρ) M))) (aName 7))
  (fSeq (fAsg (fNew (fAddN (fVar 7) (fLst (fComp (fIt (fLst (fLim (fCons (fC (.fn "sight_chance")) (fCons (fC (.fn "hand")) (fCons (fC (.fn "shuffles_passed")) fNil)))))) [8] (aName 8) (fun _ M => .ok true M) (fun ρ M => runAct 2 g__law_word ((fCallV [("shows_sound", 3, m_shows_sound), ("sight_chance", 3, m_sight_chance), ("first_leak", 3, m_first_leak), ("first_wrong", 3, m_first_wrong), ("hand", 3, m_hand), ("shuffles_passed", 3, m_shuffles_passed)] (fVar 8) (fCons (fVar 2) (fCons (fC .non) (fCons (fC .non) fNil)))) ρ) M))))) (aName 7))
  (fSeq (fAsg (fNew (fAddN (fVar 7) (fLst (fComp (fIt (fLst (fLim (fCons (fTup (fCons (fTup (fCons (fC (.int 2)) fNil)) (fCons (fTup (fCons (fC (.int 0)) fNil)) fNil))) (fCons (fTup (fCons (fTup (fCons (fC (.int 0)) fNil)) (fCons (fTup (fCons (fC (.int 0)) (fCons (fC (.int 0)) fNil))) fNil))) fNil))))) [10, 11] (aTup 2 (aCons (aName 10) (aCons (aName 11) aNil))) (fun _ M => .ok true M) (fun ρ M => runAct 2 g__law_word ((fFn 4 m_best_guess (fCons (fVar 2) (fCons (fVar 10) (fCons (fVar 11) (fCons (fC .non) fNil))))) ρ) M))))) (aName 7))
  (fSeq (fIfS (fBl (fBin gNe (fVar 7) (fBin gMul (fLst (fLim (fCons (fC (.str "input")) fNil))) (fC (.int 8))))) (fRet (fC (.bl false)))
  fNext)
  (fSeq (fAsg (fNew (fLim (fCons (fun ρ M => runAct 2 g__law_word ((fFn 3 m_sight_chance (fCons (fVar 2) (fCons (fTup (fCons (fC (.int 0)) fNil)) (fCons (fC .non) fNil)))) ρ) M) fNil))) (aName 7))
  (fSeq (fExpr (fM1 gAppend (fVar 7) (fun ρ M => runAct 2 g__law_word ((fFn 3 m_hand (fCons (fVar 2) (fCons (fTup (fCons (fC (.int 0)) fNil)) (fCons (fC .non) fNil)))) ρ) M)))
  (fSeq (fExpr (fM1 gAppend (fVar 7) (fun ρ M => runAct 2 g__law_word ((fFn 4 m_best_guess (fCons (fVar 2) (fCons (fTup (fCons (fC (.int 0)) fNil)) (fCons (fTup (fCons (fC (.int 1)) fNil)) (fCons (fC (.int 7)) fNil))))) ρ) M)))
  (fSeq (fExpr (fM1 gAppend (fVar 7) (fun ρ M => runAct 2 g__law_word ((fFn 3 m_first_leak (fCons (fVar 2) (fCons (fVar 3) (fCons (fC .non) fNil)))) ρ) M)))
  (fRet (fAnd (fBin gEq (fVar 7) (fLst (fLim (fCons (fC (.str "sights")) (fCons (fC (.str "coins")) (fCons (fC (.str "number")) (fCons (fC (.str "number")) fNil))))))) (fBin gIsB (fFn 3 m_shows_sound (fCons (fVar 2) (fCons (fVar 3) (fCons (fC .non) fNil)))) (fC (.bl false)))))))))))))))))))))))))))
def lawRest : SD.Env → Mem → SRes :=   (fSeq (fIfS (fOrT (fBl (fBin gIsNotB (fFn 1 m_is_way (fCons (fVar 5) fNil)) (fC (.bl false)))) (fBl (fBin gIsNotB (fFn 1 m_is_way (fCons (fVar 2) fNil)) (fC (.bl true))))) (fRet (fC (.bl false)))
  fNext)
  (fSeq (fAsg (fNew (fComp (fIt (fLst (fLim (fCons (fC (.fn "inputs")) (fCons (fC (.fn "written")) fNil))))) [8] (aName 8) (fun _ M => .ok true M) (fun ρ M => runAct 2 g__law_word ((fCallV [("inputs", 1, m_inputs), ("written", 1, m_written)] (fVar 8) (fCons (fVar 5) fNil)) ρ) M))) (aName 7))
  (fSeq (fAsg (fNew (fAddN (fVar 7) (fLst (fComp (fIt (fLst (fLim (fCons (fC (.fn "first_row")) (fCons (fC (.fn "is_sound")) (fCons (fC (.fn "sound_table")) (fCons (fC (.fn "ends_surely")) (fCons (fC (.fn "mean_turns")) (fCons (fC (.fn "mean_shuffles")) fNil))))))))) [8] (aName 8) (fun _ M => .ok true M) (fun ρ M => runAct 2 g__law_word ((fCallV [("first_row", 2, m_first_row), ("mean_turns", 2, m_mean_turns), ("mean_shuffles", 2, m_mean_shuffles), ("is_sound", 2, m_is_sound), ("sound_table", 2, m_sound_table), ("ends_surely", 2, m_ends_surely)] (fVar 8) (fCons (fVar 5) (fCons (fC .non) fNil))) ρ) M))))) (aName 7))
  (fSeq (fAsg (fNew (fAddN (fVar 7) (fLst (fComp (fIt (fLst (fLim (fCons (fC (.fn "shows_sound")) (fCons (fC (.fn "sight_chance")) (fCons (fC (.fn "first_leak")) (fCons (fC (.fn "first_wrong")) (fCons (fC (.fn "hand")) (fCons (fC (.fn "shuffles_passed")) fNil))))))))) [8] (aName 8) (fun _ M => .ok true M) (fun ρ M => runAct 2 g__law_word ((fCallV [("shows_sound", 3, m_shows_sound), ("sight_chance", 3, m_sight_chance), ("first_leak", 3, m_first_leak), ("first_wrong", 3, m_first_wrong), ("hand", 3, m_hand), ("shuffles_passed", 3, m_shuffles_passed)] (fVar 8) (fCons (fVar 5) (fCons (fC .non) (fCons (fC .non) fNil)))) ρ) M))))) (aName 7))
  (fSeq (fExpr (fM1 gAppend (fVar 7) (fun ρ M => runAct 2 g__law_word ((fFn 4 m_best_guess (fCons (fVar 5) (fCons (fC .non) (fCons (fC .non) (fCons (fC .non) fNil))))) ρ) M)))
  (fSeq (fIfS (fBl (fBin gNe (fVar 7) (fBin gMul (fLst (fLim (fCons (fVar 6) fNil))) (fC (.int 15))))) (fRet (fC (.bl false)))
  fNext)
  (fSeq (fAsg (fNew (fComp (fIt (fLst (fLim (fCons (fTup (fCons (fC (.fn "is_sound")) (fCons (fTup (fCons (fTup (fCons (fC (.int 0)) fNil)) fNil)) fNil))) (fCons (fTup (fCons (fC (.fn "sound_table")) (fCons (fC .non) fNil))) (fCons (fTup (fCons (fC (.fn "ends_surely")) (fCons (fTup (fCons (fTup (fCons (fC (.int 0)) fNil)) (fCons (fTup (fCons (fC (.int 2)) fNil)) fNil))) fNil))) fNil)))))) [8, 9] (aTup 2 (aCons (aName 8) (aCons (aName 9) aNil))) (fun _ M => .ok true M) (fun ρ M => runAct 2 g__law_word ((fCallV [("first_row", 2, m_first_row), ("mean_turns", 2, m_mean_turns), ("mean_shuffles", 2, m_mean_shuffles), ("is_sound", 2, m_is_sound), ("sound_table", 2, m_sound_table), ("ends_surely", 2, m_ends_surely)] (fVar 8) (fCons (fVar 2) (fCons (fVar 9) fNil))) ρ) M))) (aName 7))
  (fSeq (fAsg (fNew (fAddN (fVar 7) (fLst (fComp (fIt (fLst (fLim (fCons (fC (.fn "shows_sound")) (fCons (fC (.fn "first_leak")) (fCons (fC (.fn "first_wrong")) fNil)))))) [8] (aName 8) (fun _ M => .ok true M) (fun ρ M => runAct 2 g__law_word ((fCallV [("shows_sound", 3, m_shows_sound), ("sight_chance", 3, m_sight_chance), ("first_leak", 3, m_first_leak), ("first_wrong", 3, m_first_wrong), ("hand", 3, m_hand), ("shuffles_passed", 3, m_shuffles_passed)] (fVar 8) (fCons (fVar 2) (fCons (fTup (fCons (fTup (fCons (fC (.int 0)) fNil)) (fCons (fTup (fCons (fC (.int 0)) (fCons (fC (.int 1)) fNil))) fNil))) (fCons (fC .non) fNil)))) ρ) M))))) (aName 7))
  (fSeq (fIfS (fBl (fBin gNe (fVar 7) (fBin gMul (fLst (fLim (fCons (fC (.str "wish")) fNil))) (fC (.int 6))))) (fRet (fC (.bl false)))
  fNext)
  (fSeq (fAsg (fNew (fComp (fIt (fLst (fLim (fCons (fC (.fn "first_row")) (fCons (fC (.fn "mean_turns")) (fCons (fC (.fn "mean_shuffles")) fNil)))))) [8] (aName 8) (fun _ M => .ok true M) (fun ρ M => runAct 2 g__law_word ((fCallV [("first_row", 2, m_first_row), ("mean_turns", 2, m_mean_turns), ("mean_shuffles", 2, m_mean_shuffles), ("is_sound", 2, m_is_sound), ("sound_table", 2, m_sound_table), ("ends_surely", 2, m_ends_surely)] (fVar 8) (fCons (fVar 2) (fCons (fTup (fCons (fC (.int 2)) fNil)) fNil))) ρ) M))) (aName 7))
  (fSeq (fAsg (fNew (fAddN (fVar 7) (fLst (fComp (fIt (fLst (fLim (fCons (fC (.fn "sight_chance")) (fCons (fC (.fn "hand")) (fCons (fC (.fn "shuffles_passed")) fNil)))))) [8] (aName 8) (fun _ M => .ok true M) (fun ρ M => runAct 2 g__law_word ((fCallV [("shows_sound", 3, m_shows_sound), ("sight_chance", 3, m_sight_chance), ("first_leak", 3, m_first_leak), ("first_wrong", 3, m_first_wrong), ("hand", 3, m_hand), ("shuffles_passed", 3, m_shuffles_passed)] (fVar 8) (fCons (fVar 2) (fCons (fC .non) (fCons (fC .non) fNil)))) ρ) M))))) (aName 7))
  (fSeq (fAsg (fNew (fAddN (fVar 7) (fLst (fComp (fIt (fLst (fLim (fCons (fTup (fCons (fTup (fCons (fC (.int 2)) fNil)) (fCons (fTup (fCons (fC (.int 0)) fNil)) fNil))) (fCons (fTup (fCons (fTup (fCons (fC (.int 0)) fNil)) (fCons (fTup (fCons (fC (.int 0)) (fCons (fC (.int 0)) fNil))) fNil))) fNil))))) [10, 11] (aTup 2 (aCons (aName 10) (aCons (aName 11) aNil))) (fun _ M => .ok true M) (fun ρ M => runAct 2 g__law_word ((fFn 4 m_best_guess (fCons (fVar 2) (fCons (fVar 10) (fCons (fVar 11) (fCons (fC .non) fNil))))) ρ) M))))) (aName 7))
  (fSeq (fIfS (fBl (fBin gNe (fVar 7) (fBin gMul (fLst (fLim (fCons (fC (.str "input")) fNil))) (fC (.int 8))))) (fRet (fC (.bl false)))
  fNext)
  (fSeq (fAsg (fNew (fLim (fCons (fun ρ M => runAct 2 g__law_word ((fFn 3 m_sight_chance (fCons (fVar 2) (fCons (fTup (fCons (fC (.int 0)) fNil)) (fCons (fC .non) fNil)))) ρ) M) fNil))) (aName 7))
  (fSeq (fExpr (fM1 gAppend (fVar 7) (fun ρ M => runAct 2 g__law_word ((fFn 3 m_hand (fCons (fVar 2) (fCons (fTup (fCons (fC (.int 0)) fNil)) (fCons (fC .non) fNil)))) ρ) M)))
  (fSeq (fExpr (fM1 gAppend (fVar 7) (fun ρ M => runAct 2 g__law_word ((fFn 4 m_best_guess (fCons (fVar 2) (fCons (fTup (fCons (fC (.int 0)) fNil)) (fCons (fTup (fCons (fC (.int 1)) fNil)) (fCons (fC (.int 7)) fNil))))) ρ) M)))
  (fSeq (fExpr (fM1 gAppend (fVar 7) (fun ρ M => runAct 2 g__law_word ((fFn 3 m_first_leak (fCons (fVar 2) (fCons (fVar 3) (fCons (fC .non) fNil)))) ρ) M)))
  (fRet (fAnd (fBin gEq (fVar 7) (fLst (fLim (fCons (fC (.str "sights")) (fCons (fC (.str "coins")) (fCons (fC (.str "number")) (fCons (fC (.str "number")) fNil))))))) (fBin gIsB (fFn 3 m_shows_sound (fCons (fVar 2) (fCons (fVar 3) (fCons (fC .non) fNil)))) (fC (.bl false))))))))))))))))))))))
def lawAsg : D → SD.Env → Option SD.Env := (aTup 2 (aCons (aName 5) (aCons (aName 6) aNil)))
def fin (r : SRes) : Res D := match r with
  | .nx _ M' => .ok .non M'
  | .rt d M' => .ok d M'
  | .exn x _ M' => .exn x M'
  | _ => .stuck
def lawArgs : SD.Env → Mem → Res (List D) := (fCons (fVar 1) (fCons (fBin gAdd (fVar 4) (fLst (fLim (fCons (fTup (fCons (fTup (fCons (fC (.int 1)) (fCons (fTup fNil) (fCons (fTup (fCons (fTup (fCons (fC (.str "tell")) (fCons (fTup (fCons (fC (.int 0)) fNil)) fNil))) (fCons (fTup (fCons (fC (.str "lay")) (fCons (fTup (fCons (fTup (fCons (fC (.int 0)) (fCons (fC (.int 1)) fNil))) fNil)) fNil))) fNil))) fNil)))) (fCons (fC (.str "endsnone")) fNil))) (fCons (fTup (fCons (fTup (fCons (fC (.int 1)) (fCons (fTup fNil) (fCons (fTup (fCons (fTup (fCons (fC (.str "move")) (fCons (fTup (fCons (fC (.int 0)) (fCons (fC (.int 0)) fNil))) (fCons (fC (.int 0)) fNil)))) fNil)) fNil)))) (fCons (fC (.str "node0")) fNil))) fNil))))) fNil))
def stN : Nat → SD.Env → Mem → SRes
  | 0 => (fAsg (fNew (fLim (fCons (fVar 0) (fCons (fC (.int 0)) (fCons (fC (.int 21009)) (fCons (fC (.int 0)) fNil)))))) (aName 1))
  | 1 => (fAsg (fTup (fCons (fTup (fCons (fC (.int 1)) (fCons (fTup fNil) (fCons (fTup (fCons (fTup (fCons (fC (.str "lay")) (fCons (fTup (fCons (fTup (fCons (fC (.int 0)) (fCons (fC (.int 1)) fNil))) fNil)) fNil))) fNil)) fNil)))) (fCons (fTup (fCons (fTup (fCons (fC (.int 0)) fNil)) (fCons (fTup (fCons (fC (.int 1)) fNil)) fNil))) fNil))) (aTup 2 (aCons (aName 2) (aCons (aName 3) aNil))))
  | 2 => (fAsg (fLst (fLim (fCons (fTup (fCons (fC .non) (fCons (fC (.str "formnone")) fNil))) (fCons (fTup (fCons (fLst (fLim (fCons (fC (.int 1)) (fCons (fTup fNil) (fCons (fTup (fCons (fTup (fCons (fC (.str "tell")) (fCons (fTup (fCons (fC (.int 0)) fNil)) fNil))) fNil)) fNil))))) (fCons (fC (.str "formnone")) fNil))) (fCons (fTup (fCons (fTup (fCons (fC (.int 4)) (fCons (fTup fNil) (fCons (fTup (fCons (fTup (fCons (fC (.str "tell")) (fCons (fTup (fCons (fC (.int 0)) fNil)) fNil))) fNil)) fNil)))) (fCons (fC (.str "bitsnone")) fNil))) (fCons (fTup (fCons (fTup (fCons (fC (.int 1)) (fCons (fTup (fCons (fC (.int 2)) fNil)) (fCons (fTup (fCons (fTup (fCons (fC (.str "tell")) (fCons (fTup (fCons (fC (.int 0)) fNil)) fNil))) fNil)) fNil)))) (fCons (fC (.str "helpsnone")) fNil))) fNil)))))) (aName 4))
  | 3 => (fAsg (fBin gAdd (fVar 4) (fLst (fLim (fCons (fTup (fCons (fTup (fCons (fC (.int 1)) (fCons (fTup fNil) (fCons (fTup fNil) fNil)))) (fCons (fC (.str "nodesnone")) fNil))) (fCons (fTup (fCons (fTup (fCons (fC (.int 1)) (fCons (fTup fNil) (fCons (fTup (fCons (fTup (fCons (fC (.str "tell")) (fCons (fTup (fCons (fC (.int 0)) fNil)) fNil))) (fCons (fTup (fCons (fC (.str "lay")) (fCons (fTup (fCons (fTup (fCons (fC (.int 0)) (fCons (fC (.int 2)) fNil))) fNil)) fNil))) fNil))) fNil)))) (fCons (fC (.str "node1")) fNil))) (fCons (fTup (fCons (fTup (fCons (fC (.int 1)) (fCons (fTup fNil) (fCons (fTup (fCons (fTup (fCons (fC (.str "tell")) (fCons (fTup (fCons (fC (.int 0)) fNil)) fNil))) (fCons (fTup (fCons (fC (.str "tell")) (fCons (fTup (fCons (fC (.int 0)) (fCons (fC (.int 1)) fNil))) fNil))) fNil))) fNil)))) (fCons (fC (.str "endsnone")) fNil))) fNil)))))) (aName 4))
  | _ => fNext
def nxE (r : SRes) : SD.Env := match r with
  | .nx ρ _ => ρ
  | _ => []
def nxM (r : SRes) : Mem := match r with
  | .nx _ M => M
  | _ => []
def isNx (r : SRes) : Bool := match r with
  | .nx _ _ => true
  | _ => false
theorem seq_go {s r : SD.Env → Mem → SRes} {ρ : SD.Env} {M : Mem} (h : isNx (s ρ M) = true) : fSeq s r ρ M = r (nxE (s ρ M)) (nxM (s ρ M)) := by
  unfold isNx at h
  unfold fSeq nxE nxM
  cases q : s ρ M <;> rw [q] at h <;> first | rfl | cases h
def atS (sc : D) : Nat → SD.Env × Mem
  | 0 => (startE 12 [sc], [])
  | n + 1 => (nxE (stN n (atS sc n).1 (atS sc n).2), nxM (stN n (atS sc n).1 (atS sc n).2))
def rho (sc : D) : SD.Env := (atS sc 4).1
def mem0 (sc : D) : Mem := (atS sc 4).2
def things (sc : D) : List D := match lawArgs (rho sc) (mem0 sc) with
  | .ok [_, .lst l] _ => l
  | _ => []
def after (sc : D) (r : Res D) : Res D := fin ((r.toS (rho sc) fun d M1 => match lawAsg d (rho sc) with
  | some ρ' => .nx ρ' M1
  | none => .stuck).bind lawRest)
def isT (r : Res D) : Bool := match r with
  | .ok (.bl true) _ => true
  | _ => false
theorem isT_ok {r : Res D} (h : isT r = true) : ∃ M, r = .ok (.bl true) M := by
  unfold isT at h
  split at h
  · exact ⟨_, rfl⟩
  · cases h
theorem args_at (sc : D) : lawArgs (rho sc) (mem0 sc) = .ok [.ref 0, .lst (things sc)] (mem0 sc) := by kernel_rfl
theorem mem0_at (sc : D) : mem0 sc = [.lst [sc, .int 0, .int 21009, .int 0]] := by kernel_rfl
theorem mof_fin {n : Nat} {g : SD.Env → Mem → SRes} {ds : List D} {M : Mem} : SD.mOf n g ds M = fin (g (startE n ds) M) := by
  unfold SD.mOf fin
  rfl
theorem law_split (p : List D → Mem → Res D) (sc : D) : SD.mOf 12 (lawG p) [sc] [] = after sc (p [.ref 0, .lst (things sc)] (mem0 sc)) := by
  rw [mof_fin]
  show fin ((fSeq (stN 0) (fSeq (stN 1) (fSeq (stN 2) (fSeq (stN 3) (fSeq (fAsg (fFn 2 p lawArgs) lawAsg) lawRest))))) (startE 12 [sc]) []) = _
  rw [seq_go (by kernel_rfl)]
  rw [seq_go (by kernel_rfl)]
  rw [seq_go (by kernel_rfl)]
  rw [seq_go (by kernel_rfl)]
  unfold after
  refine congrArg fin ?_
  show fSeq (fAsg (fFn 2 p lawArgs) lawAsg) lawRest (rho sc) (mem0 sc) = _
  unfold fSeq fAsg fFn
  rw [args_at, Res.bind_ok, if_pos (show [D.ref 0, D.lst (things sc)].length = 2 from rfl)]
  all_goals rfl
theorem things9 (sc : D) : (things sc).length = 9 := by kernel_rfl
end KK

set_option Elab.async false
set_option linter.all false
set_option maxRecDepth 1000000
set_option maxHeartbeats 0
namespace KK
open PySem PySem.Spec PyProof.Rows L2 SD
theorem run_all (sc : D) (X : AO) : ∀ v : Nat, v < 9 → isT (after sc (.ok ((things sc).getD v .non) [X])) = true
  | 0, _ => by kernel_rfl
  | 1, _ => by kernel_rfl
  | 2, _ => by kernel_rfl
  | 3, _ => by kernel_rfl
  | 4, _ => by kernel_rfl
  | 5, _ => by kernel_rfl
  | 6, _ => by kernel_rfl
  | 7, _ => by kernel_rfl
  | 8, _ => by kernel_rfl
  | n + 9, h => absurd h (by omega)
theorem picked {M : Mem} {n : Nat} {ns : List Int} {i s r : Int} {l : List D} (h : M[n]? = some (row ns i s r)) (k : RowOk i s r) (h0 : 1 ≤ l.length) (h1 : l.length ≤ 1000) (hl : ns.length ≤ 63) :
    ∃ (v : Nat) (i' s' r' : Int), m__law_pick [.ref n, .lst l] M = .ok (l.getD v .non) (M.set n (row ns i' s' r')) ∧ v < l.length := by
  obtain ⟨v, i', s', r', e, v0, v1, k'⟩ := taken (many := (l.length : Int)) h k (by omega) (by omega) hl
  refine ⟨v.toNat, i', s', r', ?_, by omega⟩
  have hv : v.toNat < l.length := by omega
  unfold m__law_pick SD.mOf g__law_pick
  simp [fRet, fBin, fVar, startE, Res.bind_ok, Res.toS_ok, fFn, fCall, fCons, fNil, gLen, seqOf, lstOf, e, gIx, atI, ixN, hv, v0, v1]
theorem law_true {ns : List Int} (hl : ns.length ≤ 63) : ∃ M, m_law [.scr (ns.map D.int)] [] = .ok (.bl true) M := by
  show ∃ M, SD.mOf 12 (lawG m__law_pick) [.scr (ns.map D.int)] [] = .ok (.bl true) M
  rw [law_split]
  have hm : (mem0 (.scr (ns.map D.int)))[0]? = some (row ns 0 21009 0) := by rw [mem0_at]; rfl
  obtain ⟨v, i, s, r, e, hv⟩ := picked (l := things (.scr (ns.map D.int))) hm ⟨by omega, by omega, by omega, by omega⟩ (by rw [things9]; omega) (by rw [things9]; omega) hl
  rw [e, mem0_at]
  exact isT_ok (run_all _ _ v (by rw [things9] at hv; exact hv))
end KK

set_option Elab.async false
set_option linter.all false
set_option maxRecDepth 100000
set_option maxHeartbeats 0
namespace KH
open PySem PySem.Spec PyProof.Rows L2
def top (i : Nat) : Stmt := PySem.Challenge.pw_silentdecks_k09_ways_refused.main.body.getD i (.Pass ⟨0, 0, 0, 0⟩)

abbrev sis_integer : Stmt := top 11
abbrev sis_number : Stmt := top 12
abbrev sis_tuple : Stmt := top 13
abbrev sare_bits : Stmt := top 14
abbrev sare_places : Stmt := top 15
abbrev sis_order : Stmt := top 16
abbrev sare_orders : Stmt := top 17
abbrev srises : Stmt := top 18
abbrev sis_way : Stmt := top 23
abbrev sinputs : Stmt := top 24
abbrev sfirst_row : Stmt := top 25
abbrev scheck_way : Stmt := top 26
abbrev scheck_input : Stmt := top 27
abbrev scheck_wish : Stmt := top 28
abbrev sis_end : Stmt := top 31
abbrev sway_fault : Stmt := top 33
abbrev shead_fault : Stmt := top 34
abbrev sis_node : Stmt := top 35
abbrev sis_move : Stmt := top 36
abbrev sis_shuffle : Stmt := top 37
abbrev sis_turn : Stmt := top 38
abbrev sis_sight_way : Stmt := top 39
abbrev sis_lay : Stmt := top 40
abbrev sis_sound : Stmt := top 62
abbrev ssound_table : Stmt := top 63
abbrev sends_surely : Stmt := top 64
abbrev sshows_sound : Stmt := top 65
abbrev shand : Stmt := top 82
abbrev sshuffles_passed : Stmt := top 83
abbrev scheck_hand : Stmt := top 84
abbrev ssight_chance : Stmt := top 110
abbrev sfirst_leak : Stmt := top 111
abbrev sfirst_wrong : Stmt := top 112
abbrev sbest_guess : Stmt := top 113
abbrev smean_turns : Stmt := top 114
abbrev smean_shuffles : Stmt := top 115
abbrev scheck_watch : Stmt := top 116
abbrev scheck_many : Stmt := top 117
abbrev swritten : Stmt := top 123
abbrev s_law_taken : Stmt := top 129
abbrev s_law_pick : Stmt := top 130
abbrev s_law_word : Stmt := top 132
abbrev slaw : Stmt := top 133
abbrev sBadWay___init__ : Stmt := inClass (top 3) 0
abbrev sTooMany___init__ : Stmt := inClass (top 9) 0
def dis_integer : He.DefD := ⟨("is_integer", none), "is_integer", "is_integer", defArgs sis_integer, defBody sis_integer, defScope sis_integer, [], []⟩
def dis_number : He.DefD := ⟨("is_number", none), "is_number", "is_number", defArgs sis_number, defBody sis_number, defScope sis_number, [], []⟩
def dis_tuple : He.DefD := ⟨("is_tuple", none), "is_tuple", "is_tuple", defArgs sis_tuple, defBody sis_tuple, defScope sis_tuple, [], []⟩
def dare_bits : He.DefD := ⟨("are_bits", none), "are_bits", "are_bits", defArgs sare_bits, defBody sare_bits, defScope sare_bits, [], []⟩
def dare_places : He.DefD := ⟨("are_places", none), "are_places", "are_places", defArgs sare_places, defBody sare_places, defScope sare_places, [], []⟩
def dis_order : He.DefD := ⟨("is_order", none), "is_order", "is_order", defArgs sis_order, defBody sis_order, defScope sis_order, [], []⟩
def dare_orders : He.DefD := ⟨("are_orders", none), "are_orders", "are_orders", defArgs sare_orders, defBody sare_orders, defScope sare_orders, [], []⟩
def drises : He.DefD := ⟨("rises", none), "rises", "rises", defArgs srises, defBody srises, defScope srises, [], []⟩
def dis_way : He.DefD := ⟨("is_way", none), "is_way", "is_way", defArgs sis_way, defBody sis_way, defScope sis_way, [], []⟩
def dinputs : He.DefD := ⟨("inputs", none), "inputs", "inputs", defArgs sinputs, defBody sinputs, defScope sinputs, [], []⟩
def dfirst_row : He.DefD := ⟨("first_row", none), "first_row", "first_row", defArgs sfirst_row, defBody sfirst_row, defScope sfirst_row, [], []⟩
def dcheck_way : He.DefD := ⟨("check_way", none), "check_way", "check_way", defArgs scheck_way, defBody scheck_way, defScope scheck_way, [], []⟩
def dcheck_input : He.DefD := ⟨("check_input", none), "check_input", "check_input", defArgs scheck_input, defBody scheck_input, defScope scheck_input, [], []⟩
def dcheck_wish : He.DefD := ⟨("check_wish", none), "check_wish", "check_wish", defArgs scheck_wish, defBody scheck_wish, defScope scheck_wish, [], []⟩
def dis_end : He.DefD := ⟨("is_end", none), "is_end", "is_end", defArgs sis_end, defBody sis_end, defScope sis_end, [], []⟩
def dway_fault : He.DefD := ⟨("way_fault", none), "way_fault", "way_fault", defArgs sway_fault, defBody sway_fault, defScope sway_fault, [], []⟩
def dhead_fault : He.DefD := ⟨("head_fault", none), "head_fault", "head_fault", defArgs shead_fault, defBody shead_fault, defScope shead_fault, [], []⟩
def dis_node : He.DefD := ⟨("is_node", none), "is_node", "is_node", defArgs sis_node, defBody sis_node, defScope sis_node, [], []⟩
def dis_move : He.DefD := ⟨("is_move", none), "is_move", "is_move", defArgs sis_move, defBody sis_move, defScope sis_move, [], []⟩
def dis_shuffle : He.DefD := ⟨("is_shuffle", none), "is_shuffle", "is_shuffle", defArgs sis_shuffle, defBody sis_shuffle, defScope sis_shuffle, [], []⟩
def dis_turn : He.DefD := ⟨("is_turn", none), "is_turn", "is_turn", defArgs sis_turn, defBody sis_turn, defScope sis_turn, [], []⟩
def dis_sight_way : He.DefD := ⟨("is_sight_way", none), "is_sight_way", "is_sight_way", defArgs sis_sight_way, defBody sis_sight_way, defScope sis_sight_way, [], []⟩
def dis_lay : He.DefD := ⟨("is_lay", none), "is_lay", "is_lay", defArgs sis_lay, defBody sis_lay, defScope sis_lay, [], []⟩
def dis_sound : He.DefD := ⟨("is_sound", none), "is_sound", "is_sound", defArgs sis_sound, defBody sis_sound, defScope sis_sound, [], []⟩
def dsound_table : He.DefD := ⟨("sound_table", none), "sound_table", "sound_table", defArgs ssound_table, defBody ssound_table, defScope ssound_table, [], []⟩
def dends_surely : He.DefD := ⟨("ends_surely", none), "ends_surely", "ends_surely", defArgs sends_surely, defBody sends_surely, defScope sends_surely, [], []⟩
def dshows_sound : He.DefD := ⟨("shows_sound", none), "shows_sound", "shows_sound", defArgs sshows_sound, defBody sshows_sound, defScope sshows_sound, [], []⟩
def dhand : He.DefD := ⟨("hand", none), "hand", "hand", defArgs shand, defBody shand, defScope shand, [], []⟩
def dshuffles_passed : He.DefD := ⟨("shuffles_passed", none), "shuffles_passed", "shuffles_passed", defArgs sshuffles_passed, defBody sshuffles_passed, defScope sshuffles_passed, [], []⟩
def dcheck_hand : He.DefD := ⟨("check_hand", none), "check_hand", "check_hand", defArgs scheck_hand, defBody scheck_hand, defScope scheck_hand, [], []⟩
def dsight_chance : He.DefD := ⟨("sight_chance", none), "sight_chance", "sight_chance", defArgs ssight_chance, defBody ssight_chance, defScope ssight_chance, [], []⟩
def dfirst_leak : He.DefD := ⟨("first_leak", none), "first_leak", "first_leak", defArgs sfirst_leak, defBody sfirst_leak, defScope sfirst_leak, [], []⟩
def dfirst_wrong : He.DefD := ⟨("first_wrong", none), "first_wrong", "first_wrong", defArgs sfirst_wrong, defBody sfirst_wrong, defScope sfirst_wrong, [], []⟩
def dbest_guess : He.DefD := ⟨("best_guess", none), "best_guess", "best_guess", defArgs sbest_guess, defBody sbest_guess, defScope sbest_guess, [], []⟩
def dmean_turns : He.DefD := ⟨("mean_turns", none), "mean_turns", "mean_turns", defArgs smean_turns, defBody smean_turns, defScope smean_turns, [], []⟩
def dmean_shuffles : He.DefD := ⟨("mean_shuffles", none), "mean_shuffles", "mean_shuffles", defArgs smean_shuffles, defBody smean_shuffles, defScope smean_shuffles, [], []⟩
def dcheck_watch : He.DefD := ⟨("check_watch", none), "check_watch", "check_watch", defArgs scheck_watch, defBody scheck_watch, defScope scheck_watch, [], []⟩
def dcheck_many : He.DefD := ⟨("check_many", none), "check_many", "check_many", defArgs scheck_many, defBody scheck_many, defScope scheck_many, [], []⟩
def dwritten : He.DefD := ⟨("written", none), "written", "written", defArgs swritten, defBody swritten, defScope swritten, [], []⟩
def d_law_taken : He.DefD := ⟨("_law_taken", none), "_law_taken", "_law_taken", defArgs s_law_taken, defBody s_law_taken, defScope s_law_taken, [], []⟩
def d_law_pick : He.DefD := ⟨("_law_pick", none), "_law_pick", "_law_pick", defArgs s_law_pick, defBody s_law_pick, defScope s_law_pick, [], []⟩
def d_law_word : He.DefD := ⟨("_law_word", none), "_law_word", "_law_word", defArgs s_law_word, defBody s_law_word, defScope s_law_word, [], []⟩
def dlaw : He.DefD := ⟨("law", none), "law", "law", defArgs slaw, defBody slaw, defScope slaw, [], []⟩
def dBadWay___init__ : He.DefD := ⟨("BadWay", some "__init__"), "__init__", "BadWay.__init__", defArgs sBadWay___init__, defBody sBadWay___init__, defScope sBadWay___init__, [], []⟩
def dTooMany___init__ : He.DefD := ⟨("TooMany", some "__init__"), "__init__", "TooMany.__init__", defArgs sTooMany___init__, defBody sTooMany___init__, defScope sTooMany___init__, [], []⟩
def fn : List He.DefD := [dis_integer, dis_number, dis_tuple, dare_bits, dare_places, dis_order, dare_orders, drises, dis_way, dinputs, dfirst_row, dcheck_way, dcheck_input, dcheck_wish, dis_end, dway_fault, dhead_fault, dis_node, dis_move, dis_shuffle, dis_turn, dis_sight_way, dis_lay, dis_sound, dsound_table, dends_surely, dshows_sound, dhand, dshuffles_passed, dcheck_hand, dsight_chance, dfirst_leak, dfirst_wrong, dbest_guess, dmean_turns, dmean_shuffles, dcheck_watch, dcheck_many, dwritten, d_law_taken, d_law_pick, d_law_word, dlaw, dBadWay___init__, dTooMany___init__]
def fa : List He.Fa := [.glo "is_integer", .glo "is_number", .glo "is_tuple", .glo "are_bits", .glo "are_places", .glo "is_order", .glo "are_orders", .glo "rises", .glo "is_way", .glo "inputs", .glo "first_row", .glo "check_way", .glo "check_input", .glo "check_wish", .glo "is_end", .glo "way_fault", .glo "head_fault", .glo "is_node", .glo "is_move", .glo "is_shuffle", .glo "is_turn", .glo "is_sight_way", .glo "is_lay", .glo "is_sound", .glo "sound_table", .glo "ends_surely", .glo "shows_sound", .glo "hand", .glo "shuffles_passed", .glo "check_hand", .glo "sight_chance", .glo "first_leak", .glo "first_wrong", .glo "best_guess", .glo "mean_turns", .glo "mean_shuffles", .glo "check_watch", .glo "check_many", .glo "written", .glo "_law_taken", .glo "_law_pick", .glo "_law_word", .glo "law", .glo "DeckError", .glo "BadWay", .glo "BadWish", .glo "BadInput", .glo "BadSights", .glo "BadCoins", .glo "BadNumber", .glo "TooMany", .free "len", .free "int", .free "range", .free "tuple", .free "list", .free "set", .free "all", .free "any", .free "sum", .free "min", .free "max", .free "abs", .free "sorted", .free "isinstance", .free "zip", .free "enumerate", .free "dict", .free "str", .free "bool", .free "repr", .free "ord", .free "reversed", .int "MOST_BITS" 3, .int "MOST_CARDS" 8, .int "MOST_NODES" 24, .int "MOST_PLACES" 300, .int "MOST_COINS" 100, .int "HIGHEST_COIN" 839, .int "MOST_PASSED" 100, .int "MOST_STATES" 400, .int "MOST_SIGHTS" 6, .int "MOST_SEEN" 8, .exc "DeckError", .exc "BadWish", .exc "BadInput", .exc "BadSights", .exc "BadCoins", .exc "BadNumber", .noat "BadWay" "word", .noat "BadWay" "node", .noat "TooMany" "most", .exm "DeckError" "DeckError" true, .exm "DeckError" "BadWay" false, .exm "DeckError" "BadWish" false, .exm "DeckError" "BadInput" false, .exm "DeckError" "BadSights" false, .exm "DeckError" "BadCoins" false, .exm "DeckError" "BadNumber" false, .exm "DeckError" "TooMany" false, .exm "BadWay" "DeckError" true, .exm "BadWay" "BadWay" true, .exm "BadWay" "BadWish" false, .exm "BadWay" "BadInput" false, .exm "BadWay" "BadSights" false, .exm "BadWay" "BadCoins" false, .exm "BadWay" "BadNumber" false, .exm "BadWay" "TooMany" false, .exm "BadWish" "DeckError" true, .exm "BadWish" "BadWay" false, .exm "BadWish" "BadWish" true, .exm "BadWish" "BadInput" false, .exm "BadWish" "BadSights" false, .exm "BadWish" "BadCoins" false, .exm "BadWish" "BadNumber" false, .exm "BadWish" "TooMany" false, .exm "BadInput" "DeckError" true, .exm "BadInput" "BadWay" false, .exm "BadInput" "BadWish" false, .exm "BadInput" "BadInput" true, .exm "BadInput" "BadSights" false, .exm "BadInput" "BadCoins" false, .exm "BadInput" "BadNumber" false, .exm "BadInput" "TooMany" false, .exm "BadSights" "DeckError" true, .exm "BadSights" "BadWay" false, .exm "BadSights" "BadWish" false, .exm "BadSights" "BadInput" false, .exm "BadSights" "BadSights" true, .exm "BadSights" "BadCoins" false, .exm "BadSights" "BadNumber" false, .exm "BadSights" "TooMany" false, .exm "BadCoins" "DeckError" true, .exm "BadCoins" "BadWay" false, .exm "BadCoins" "BadWish" false, .exm "BadCoins" "BadInput" false, .exm "BadCoins" "BadSights" false, .exm "BadCoins" "BadCoins" true, .exm "BadCoins" "BadNumber" false, .exm "BadCoins" "TooMany" false, .exm "BadNumber" "DeckError" true, .exm "BadNumber" "BadWay" false, .exm "BadNumber" "BadWish" false, .exm "BadNumber" "BadInput" false, .exm "BadNumber" "BadSights" false, .exm "BadNumber" "BadCoins" false, .exm "BadNumber" "BadNumber" true, .exm "BadNumber" "TooMany" false, .exm "TooMany" "DeckError" true, .exm "TooMany" "BadWay" false, .exm "TooMany" "BadWish" false, .exm "TooMany" "BadInput" false, .exm "TooMany" "BadSights" false, .exm "TooMany" "BadCoins" false, .exm "TooMany" "BadNumber" false, .exm "TooMany" "TooMany" true]
abbrev R : PySem.W.OpenRow := PySem.W.OpenLaw.row PySem.Challenge.rw_silentdecks_k09_ways_refused
def ex (K : PySem.W.Frag) : Bool := SD.initB K "BadWay" && SD.initB K "TooMany"
def tf : List He.Defn := [("law", none)]
def ts : List He.Tab := []
def as0 : List Nat := [3, 160, 167, 174, 179, 184, 191, 196, 201, 208, 215, 222, 229, 236, 241, 258, 268, 275, 282, 289, 296, 301, 308, 313, 424, 431, 438, 443, 514, 521]
def as1 : List Nat := [526, 644, 651, 658, 665, 672, 679, 686, 693, 722, 749, 756, 768, 773, 52, 72, 84, 96, 108, 120, 132, 151, 159, 166, 173, 178, 183, 190, 195, 200]
def as2 : List Nat := [207, 214, 221, 228, 235, 240, 257, 267, 274, 281, 288, 295, 300, 307, 312, 423, 430, 437, 442, 513, 520, 525, 643, 650, 657, 664, 671, 678, 685, 692]
def as3 : List Nat := [721, 748, 755, 767, 772, 51, 71, 83, 95, 107, 119, 131, 150, 154, 155, 156, 157, 158, 161, 162, 163, 164, 165, 168, 169, 170, 171, 172, 175, 176]
def as4 : List Nat := [177, 180, 181, 182, 185, 186, 187, 188, 189, 192, 193, 194, 197, 198, 199, 202, 203, 204, 205, 206, 209, 210, 211, 212, 213, 216, 217, 218, 219, 220]
def as5 : List Nat := [223, 224, 225, 226, 227, 230, 231, 232, 233, 234, 237, 238, 239, 252, 253, 254, 255, 256, 264, 265, 266, 269, 270, 271, 272, 273, 276, 277, 278, 279]
def as6 : List Nat := [280, 283, 284, 285, 286, 287, 290, 291, 292, 293, 294, 297, 298, 299, 302, 303, 304, 305, 306, 309, 310, 311, 418, 419, 420, 421, 422, 425, 426, 427]
def as7 : List Nat := [428, 429, 432, 433, 434, 435, 436, 439, 440, 441, 508, 509, 510, 511, 512, 515, 516, 517, 518, 519, 522, 523, 524, 640, 641, 642, 645, 646, 647, 648]
def as8 : List Nat := [649, 652, 653, 654, 655, 656, 659, 660, 661, 662, 663, 666, 667, 668, 669, 670, 673, 674, 675, 676, 677, 680, 681, 682, 683, 684, 687, 688, 689, 690]
def as9 : List Nat := [691, 718, 719, 720, 743, 744, 745, 746, 747, 750, 751, 752, 753, 754, 762, 763, 764, 765, 766, 769, 770, 771, 50, 53, 69, 70, 82, 94, 106, 118]
def as10 : List Nat := [130, 148, 149, 68, 147]
def asL : List Nat := as0 ++ (as1 ++ (as2 ++ (as3 ++ (as4 ++ (as5 ++ (as6 ++ (as7 ++ (as8 ++ (as9 ++ (as10))))))))))
abbrev hk : PySem.W.Hook := SD.hookY asL fa fn ts tf ex
def ob (s : PySem.W.SharedT) : He.AlX := SD.obsY asL fa fn ts tf ex (HandSHeadRun.getT s)
theorem ob_eq (s : PySem.W.SharedT) : ob s = hk.obs s.abs := SD.obsY_eq (HandSHeadRun.getT_eq s)

def lo0 : List Str := ["gcd", "lcm", "DeckError", "BadWay", "BadWish", "BadInput", "BadSights", "BadCoins", "BadNumber", "TooMany", "is_integer", "is_number"]
def lo1 : List Str := ["is_tuple", "are_bits", "are_places", "is_order", "are_orders", "rises", "MOST_BITS", "MOST_CARDS", "MOST_NODES", "is_way", "inputs", "first_row"]
def lo2 : List Str := ["check_way", "check_input", "check_wish", "bit_rows", "laid_row", "is_end", "has_tell", "way_fault", "head_fault", "is_node", "is_move", "is_shuffle"]
def lo3 : List Str := ["is_turn", "is_sight_way", "is_lay", "lowest", "first_place", "row_in_order", "sight_at", "result_at", "weights_of", "entry_of", "shuffled_weights", "shuffled_entry"]
def lo4 : List Str := ["parted_weights", "weights_by_sight", "sight_chances", "places_behind_turn", "next_ones", "orders_of", "next_of", "states_behind", "leading_to", "MOST_PLACES", "is_sound", "sound_table"]
def lo5 : List Str := ["ends_surely", "shows_sound", "rank", "walk_of", "is_wrong", "ends_right", "turns_well", "all_can_end", "one_can_end", "is_place", "is_entry", "is_chance"]
def lo6 : List Str := ["is_ratio", "comes_to_one", "MOST_COINS", "HIGHEST_COIN", "MOST_PASSED", "hand", "shuffles_passed", "check_hand", "done", "gap_of", "to_turn", "first_apart"]
def lo7 : List Str := ["seen_at", "takes_up", "without_row", "in_lowest", "distance", "part_out", "is_settled", "added", "multiplied", "MOST_STATES", "mean_passed", "states_from"]
def lo8 : List Str := ["equation_at", "closed", "solved", "put_in", "MOST_SIGHTS", "MOST_SEEN", "sight_chance", "first_leak", "first_wrong", "best_guess", "mean_turns", "mean_shuffles"]
def lo9 : List Str := ["check_watch", "check_many", "chance_of", "kept_alike", "wrong_sights", "spread", "written", "node_line", "figures", "spaced", "slashed", "_law_taken"]
def lo10 : List Str := ["_law_pick", "_law_alike", "_law_word"]
def loose : List Str := lo0 ++ lo1 ++ lo2 ++ lo3 ++ lo4 ++ lo5 ++ lo6 ++ lo7 ++ lo8 ++ lo9 ++ lo10
open HandSHeadRun PySem.W in
noncomputable abbrev Xw (w : World) := HandSHeadRun.wholeF (fun p => HandSHeadRun.stepQ (HandSHeadRun.denQ HandSHeadRun.tabQ) p w) HandSHeadRun.fenceQ 8000 R.prog
abbrev qv : Program := PySem.W.view R.prog [0, 133]
noncomputable abbrev Sn (s : Shared) := HandSHeadRun.seenQ qv loose (importedModules R.prog.main.body) (fun s => PySem.W.xlAt qv [] s && PySem.W.recOk R.toRowW.records s) s
abbrev Gd := PySem.W.openGood qv loose
theorem run1 (w : World) : (Xw w).map (fun x => (HandSHeadRun.looksF R.prog x.1.heap x.2.abs, (Sn x.2.abs).2.1, (Sn x.2.abs).2.2.2.1)) = some (true, Gd.2.1, Gd.2.2.2.1) := by kernel_rfl
theorem run2 (w : World) : (Xw w).map (fun x => ((Sn x.2.abs).1, (Sn x.2.abs).2.2.1, (Sn x.2.abs).2.2.2.2.1, (Sn x.2.abs).2.2.2.2.2.1, (Sn x.2.abs).2.2.2.2.2.2)) = some (Gd.1, Gd.2.2.1, Gd.2.2.2.2.1, Gd.2.2.2.2.2.1, Gd.2.2.2.2.2.2) := by kernel_rfl
theorem run3 (w : World) : (Xw w).map (fun x => ob x.2) = some (hk.val w) := by kernel_rfl
theorem run (w : World) : HandSHeadRun.RunEqI R qv hk ob 8000 loose w :=
  SD.look_join (o := Xw w) (l := fun x => HandSHeadRun.looksF R.prog x.1.heap x.2.abs) (S := fun x => Sn x.2.abs) (ob := fun x => ob x.2) (vl := true) (V := Gd) (vo := hk.val w) (run1 w) (run2 w) (run3 w)
end KH

set_option Elab.async false
set_option linter.all false
set_option maxRecDepth 100000
set_option maxHeartbeats 0
namespace KK
open PySem PySem.Spec PyProof.Rows L2 SD
section
variable {P : Program} {w : World} {K : PySem.W.Frag} {mg : Str → Option Value} {base h : Heap}
theorem ini_BadWay {K : PySem.W.Frag} (hex : KH.ex K = true) : InitC K "BadWay" := initB_ok ((He.ba hex).1)
theorem ini_TooMany {K : PySem.W.Frag} (hex : KH.ex K = true) : InitC K "TooMany" := initB_ok ((He.ba hex).2)
theorem gx (say : He.SaysD KH.fa KH.fn K) (ki : K.In h) (nsm : h.Ns mainGlobals mg) (hex : KH.ex K = true) : Gx K mg where
  z_all := He.free_ok ki nsm (say.facts (f := .free "all") (List.mem_iff_getElem?.mpr ⟨57, rfl⟩))
  z_any := He.free_ok ki nsm (say.facts (f := .free "any") (List.mem_iff_getElem?.mpr ⟨58, rfl⟩))
  z_bool := He.free_ok ki nsm (say.facts (f := .free "bool") (List.mem_iff_getElem?.mpr ⟨69, rfl⟩))
  z_enumerate := He.free_ok ki nsm (say.facts (f := .free "enumerate") (List.mem_iff_getElem?.mpr ⟨66, rfl⟩))
  z_int := He.free_ok ki nsm (say.facts (f := .free "int") (List.mem_iff_getElem?.mpr ⟨52, rfl⟩))
  z_isinstance := He.free_ok ki nsm (say.facts (f := .free "isinstance") (List.mem_iff_getElem?.mpr ⟨64, rfl⟩))
  z_len := He.free_ok ki nsm (say.facts (f := .free "len") (List.mem_iff_getElem?.mpr ⟨51, rfl⟩))
  z_list := He.free_ok ki nsm (say.facts (f := .free "list") (List.mem_iff_getElem?.mpr ⟨55, rfl⟩))
  z_min := He.free_ok ki nsm (say.facts (f := .free "min") (List.mem_iff_getElem?.mpr ⟨60, rfl⟩))
  z_set := He.free_ok ki nsm (say.facts (f := .free "set") (List.mem_iff_getElem?.mpr ⟨56, rfl⟩))
  z_str := He.free_ok ki nsm (say.facts (f := .free "str") (List.mem_iff_getElem?.mpr ⟨68, rfl⟩))
  z_tuple := He.free_ok ki nsm (say.facts (f := .free "tuple") (List.mem_iff_getElem?.mpr ⟨54, rfl⟩))
  z_zip := He.free_ok ki nsm (say.facts (f := .free "zip") (List.mem_iff_getElem?.mpr ⟨65, rfl⟩))
  c_HIGHEST_COIN := He.int_ok ki nsm (say.facts (f := .int "HIGHEST_COIN" 839) (List.mem_iff_getElem?.mpr ⟨78, rfl⟩))
  c_MOST_BITS := He.int_ok ki nsm (say.facts (f := .int "MOST_BITS" 3) (List.mem_iff_getElem?.mpr ⟨73, rfl⟩))
  c_MOST_CARDS := He.int_ok ki nsm (say.facts (f := .int "MOST_CARDS" 8) (List.mem_iff_getElem?.mpr ⟨74, rfl⟩))
  c_MOST_COINS := He.int_ok ki nsm (say.facts (f := .int "MOST_COINS" 100) (List.mem_iff_getElem?.mpr ⟨77, rfl⟩))
  c_MOST_NODES := He.int_ok ki nsm (say.facts (f := .int "MOST_NODES" 24) (List.mem_iff_getElem?.mpr ⟨75, rfl⟩))
  c_MOST_SEEN := He.int_ok ki nsm (say.facts (f := .int "MOST_SEEN" 8) (List.mem_iff_getElem?.mpr ⟨82, rfl⟩))
  c_MOST_SIGHTS := He.int_ok ki nsm (say.facts (f := .int "MOST_SIGHTS" 6) (List.mem_iff_getElem?.mpr ⟨81, rfl⟩))
  x_BadCoins := He.glo_ok ki nsm (say.facts (f := .glo "BadCoins") (List.mem_iff_getElem?.mpr ⟨48, rfl⟩))
  x_BadInput := He.glo_ok ki nsm (say.facts (f := .glo "BadInput") (List.mem_iff_getElem?.mpr ⟨46, rfl⟩))
  x_BadNumber := He.glo_ok ki nsm (say.facts (f := .glo "BadNumber") (List.mem_iff_getElem?.mpr ⟨49, rfl⟩))
  x_BadSights := He.glo_ok ki nsm (say.facts (f := .glo "BadSights") (List.mem_iff_getElem?.mpr ⟨47, rfl⟩))
  x_BadWay := He.glo_ok ki nsm (say.facts (f := .glo "BadWay") (List.mem_iff_getElem?.mpr ⟨44, rfl⟩))
  x_BadWish := He.glo_ok ki nsm (say.facts (f := .glo "BadWish") (List.mem_iff_getElem?.mpr ⟨45, rfl⟩))
  x_DeckError := He.glo_ok ki nsm (say.facts (f := .glo "DeckError") (List.mem_iff_getElem?.mpr ⟨43, rfl⟩))
  f_ends_surely := He.glo_ok ki nsm (say.facts (f := .glo "ends_surely") (List.mem_iff_getElem?.mpr ⟨25, rfl⟩))
  f_first_leak := He.glo_ok ki nsm (say.facts (f := .glo "first_leak") (List.mem_iff_getElem?.mpr ⟨31, rfl⟩))
  f_first_row := He.glo_ok ki nsm (say.facts (f := .glo "first_row") (List.mem_iff_getElem?.mpr ⟨10, rfl⟩))
  f_first_wrong := He.glo_ok ki nsm (say.facts (f := .glo "first_wrong") (List.mem_iff_getElem?.mpr ⟨32, rfl⟩))
  f_hand := He.glo_ok ki nsm (say.facts (f := .glo "hand") (List.mem_iff_getElem?.mpr ⟨27, rfl⟩))
  f_inputs := He.glo_ok ki nsm (say.facts (f := .glo "inputs") (List.mem_iff_getElem?.mpr ⟨9, rfl⟩))
  f_is_sound := He.glo_ok ki nsm (say.facts (f := .glo "is_sound") (List.mem_iff_getElem?.mpr ⟨23, rfl⟩))
  f_mean_shuffles := He.glo_ok ki nsm (say.facts (f := .glo "mean_shuffles") (List.mem_iff_getElem?.mpr ⟨35, rfl⟩))
  f_mean_turns := He.glo_ok ki nsm (say.facts (f := .glo "mean_turns") (List.mem_iff_getElem?.mpr ⟨34, rfl⟩))
  f_shows_sound := He.glo_ok ki nsm (say.facts (f := .glo "shows_sound") (List.mem_iff_getElem?.mpr ⟨26, rfl⟩))
  f_shuffles_passed := He.glo_ok ki nsm (say.facts (f := .glo "shuffles_passed") (List.mem_iff_getElem?.mpr ⟨28, rfl⟩))
  f_sight_chance := He.glo_ok ki nsm (say.facts (f := .glo "sight_chance") (List.mem_iff_getElem?.mpr ⟨30, rfl⟩))
  f_sound_table := He.glo_ok ki nsm (say.facts (f := .glo "sound_table") (List.mem_iff_getElem?.mpr ⟨24, rfl⟩))
  f_written := He.glo_ok ki nsm (say.facts (f := .glo "written") (List.mem_iff_getElem?.mpr ⟨38, rfl⟩))
  e_BadCoins := by
    obtain ⟨h1, h2⟩ := He.ba (say.facts (f := .exc "BadCoins") (List.mem_iff_getElem?.mpr ⟨87, rfl⟩))
    obtain ⟨h2, h3⟩ := He.ba h2
    obtain ⟨h3, h4⟩ := He.ba h3
    exact ⟨h1, h2, of_decide_eq_true h3, of_decide_eq_true h4⟩
  e_BadInput := by
    obtain ⟨h1, h2⟩ := He.ba (say.facts (f := .exc "BadInput") (List.mem_iff_getElem?.mpr ⟨85, rfl⟩))
    obtain ⟨h2, h3⟩ := He.ba h2
    obtain ⟨h3, h4⟩ := He.ba h3
    exact ⟨h1, h2, of_decide_eq_true h3, of_decide_eq_true h4⟩
  e_BadNumber := by
    obtain ⟨h1, h2⟩ := He.ba (say.facts (f := .exc "BadNumber") (List.mem_iff_getElem?.mpr ⟨88, rfl⟩))
    obtain ⟨h2, h3⟩ := He.ba h2
    obtain ⟨h3, h4⟩ := He.ba h3
    exact ⟨h1, h2, of_decide_eq_true h3, of_decide_eq_true h4⟩
  e_BadSights := by
    obtain ⟨h1, h2⟩ := He.ba (say.facts (f := .exc "BadSights") (List.mem_iff_getElem?.mpr ⟨86, rfl⟩))
    obtain ⟨h2, h3⟩ := He.ba h2
    obtain ⟨h3, h4⟩ := He.ba h3
    exact ⟨h1, h2, of_decide_eq_true h3, of_decide_eq_true h4⟩
  e_BadWish := by
    obtain ⟨h1, h2⟩ := He.ba (say.facts (f := .exc "BadWish") (List.mem_iff_getElem?.mpr ⟨84, rfl⟩))
    obtain ⟨h2, h3⟩ := He.ba h2
    obtain ⟨h3, h4⟩ := He.ba h3
    exact ⟨h1, h2, of_decide_eq_true h3, of_decide_eq_true h4⟩
  xf_BadWay := (ini_BadWay hex).f
  no_BadWay_node := He.eqO_ok (say.facts (f := .noat "BadWay" "node") (List.mem_iff_getElem?.mpr ⟨90, rfl⟩))
  no_BadWay_word := He.eqO_ok (say.facts (f := .noat "BadWay" "word") (List.mem_iff_getElem?.mpr ⟨89, rfl⟩))
  exm := fun x c b e => lookup_all (Q := fun x c b => PySem.W.exmOne K (.ref (He.ga K x)) (.ref (He.ga K c)) = some b) (by
    intro p hp
    unfold exmT at hp
    rcases List.mem_append.mp hp with hp | hq
    rotate_left
    · unfold exr_BadNumber at hq
      rcases List.mem_cons.mp hq with z | hq
      · subst z; exact of_decide_eq_true (say.facts (f := .exm "BadNumber" "BadCoins" false) (List.mem_iff_getElem?.mpr ⟨145, rfl⟩))
      rcases List.mem_cons.mp hq with z | hq
      · subst z; exact of_decide_eq_true (say.facts (f := .exm "BadNumber" "BadInput" false) (List.mem_iff_getElem?.mpr ⟨143, rfl⟩))
      rcases List.mem_cons.mp hq with z | hq
      · subst z; exact of_decide_eq_true (say.facts (f := .exm "BadNumber" "BadNumber" true) (List.mem_iff_getElem?.mpr ⟨146, rfl⟩))
      rcases List.mem_cons.mp hq with z | hq
      · subst z; exact of_decide_eq_true (say.facts (f := .exm "BadNumber" "BadSights" false) (List.mem_iff_getElem?.mpr ⟨144, rfl⟩))
      rcases List.mem_cons.mp hq with z | hq
      · subst z; exact of_decide_eq_true (say.facts (f := .exm "BadNumber" "BadWay" false) (List.mem_iff_getElem?.mpr ⟨141, rfl⟩))
      rcases List.mem_cons.mp hq with z | hq
      · subst z; exact of_decide_eq_true (say.facts (f := .exm "BadNumber" "BadWish" false) (List.mem_iff_getElem?.mpr ⟨142, rfl⟩))
      rcases List.mem_cons.mp hq with z | hq
      · subst z; exact of_decide_eq_true (say.facts (f := .exm "BadNumber" "DeckError" true) (List.mem_iff_getElem?.mpr ⟨140, rfl⟩))
      cases hq
    rcases List.mem_append.mp hp with hp | hq
    rotate_left
    · unfold exr_BadCoins at hq
      rcases List.mem_cons.mp hq with z | hq
      · subst z; exact of_decide_eq_true (say.facts (f := .exm "BadCoins" "BadCoins" true) (List.mem_iff_getElem?.mpr ⟨137, rfl⟩))
      rcases List.mem_cons.mp hq with z | hq
      · subst z; exact of_decide_eq_true (say.facts (f := .exm "BadCoins" "BadInput" false) (List.mem_iff_getElem?.mpr ⟨135, rfl⟩))
      rcases List.mem_cons.mp hq with z | hq
      · subst z; exact of_decide_eq_true (say.facts (f := .exm "BadCoins" "BadNumber" false) (List.mem_iff_getElem?.mpr ⟨138, rfl⟩))
      rcases List.mem_cons.mp hq with z | hq
      · subst z; exact of_decide_eq_true (say.facts (f := .exm "BadCoins" "BadSights" false) (List.mem_iff_getElem?.mpr ⟨136, rfl⟩))
      rcases List.mem_cons.mp hq with z | hq
      · subst z; exact of_decide_eq_true (say.facts (f := .exm "BadCoins" "BadWay" false) (List.mem_iff_getElem?.mpr ⟨133, rfl⟩))
      rcases List.mem_cons.mp hq with z | hq
      · subst z; exact of_decide_eq_true (say.facts (f := .exm "BadCoins" "BadWish" false) (List.mem_iff_getElem?.mpr ⟨134, rfl⟩))
      rcases List.mem_cons.mp hq with z | hq
      · subst z; exact of_decide_eq_true (say.facts (f := .exm "BadCoins" "DeckError" true) (List.mem_iff_getElem?.mpr ⟨132, rfl⟩))
      cases hq
    rcases List.mem_append.mp hp with hp | hq
    rotate_left
    · unfold exr_BadSights at hq
      rcases List.mem_cons.mp hq with z | hq
      · subst z; exact of_decide_eq_true (say.facts (f := .exm "BadSights" "BadCoins" false) (List.mem_iff_getElem?.mpr ⟨129, rfl⟩))
      rcases List.mem_cons.mp hq with z | hq
      · subst z; exact of_decide_eq_true (say.facts (f := .exm "BadSights" "BadInput" false) (List.mem_iff_getElem?.mpr ⟨127, rfl⟩))
      rcases List.mem_cons.mp hq with z | hq
      · subst z; exact of_decide_eq_true (say.facts (f := .exm "BadSights" "BadNumber" false) (List.mem_iff_getElem?.mpr ⟨130, rfl⟩))
      rcases List.mem_cons.mp hq with z | hq
      · subst z; exact of_decide_eq_true (say.facts (f := .exm "BadSights" "BadSights" true) (List.mem_iff_getElem?.mpr ⟨128, rfl⟩))
      rcases List.mem_cons.mp hq with z | hq
      · subst z; exact of_decide_eq_true (say.facts (f := .exm "BadSights" "BadWay" false) (List.mem_iff_getElem?.mpr ⟨125, rfl⟩))
      rcases List.mem_cons.mp hq with z | hq
      · subst z; exact of_decide_eq_true (say.facts (f := .exm "BadSights" "BadWish" false) (List.mem_iff_getElem?.mpr ⟨126, rfl⟩))
      rcases List.mem_cons.mp hq with z | hq
      · subst z; exact of_decide_eq_true (say.facts (f := .exm "BadSights" "DeckError" true) (List.mem_iff_getElem?.mpr ⟨124, rfl⟩))
      cases hq
    rcases List.mem_append.mp hp with hp | hq
    rotate_left
    · unfold exr_BadInput at hq
      rcases List.mem_cons.mp hq with z | hq
      · subst z; exact of_decide_eq_true (say.facts (f := .exm "BadInput" "BadCoins" false) (List.mem_iff_getElem?.mpr ⟨121, rfl⟩))
      rcases List.mem_cons.mp hq with z | hq
      · subst z; exact of_decide_eq_true (say.facts (f := .exm "BadInput" "BadInput" true) (List.mem_iff_getElem?.mpr ⟨119, rfl⟩))
      rcases List.mem_cons.mp hq with z | hq
      · subst z; exact of_decide_eq_true (say.facts (f := .exm "BadInput" "BadNumber" false) (List.mem_iff_getElem?.mpr ⟨122, rfl⟩))
      rcases List.mem_cons.mp hq with z | hq
      · subst z; exact of_decide_eq_true (say.facts (f := .exm "BadInput" "BadSights" false) (List.mem_iff_getElem?.mpr ⟨120, rfl⟩))
      rcases List.mem_cons.mp hq with z | hq
      · subst z; exact of_decide_eq_true (say.facts (f := .exm "BadInput" "BadWay" false) (List.mem_iff_getElem?.mpr ⟨117, rfl⟩))
      rcases List.mem_cons.mp hq with z | hq
      · subst z; exact of_decide_eq_true (say.facts (f := .exm "BadInput" "BadWish" false) (List.mem_iff_getElem?.mpr ⟨118, rfl⟩))
      rcases List.mem_cons.mp hq with z | hq
      · subst z; exact of_decide_eq_true (say.facts (f := .exm "BadInput" "DeckError" true) (List.mem_iff_getElem?.mpr ⟨116, rfl⟩))
      cases hq
    rcases List.mem_append.mp hp with hp | hq
    rotate_left
    · unfold exr_BadWish at hq
      rcases List.mem_cons.mp hq with z | hq
      · subst z; exact of_decide_eq_true (say.facts (f := .exm "BadWish" "BadCoins" false) (List.mem_iff_getElem?.mpr ⟨113, rfl⟩))
      rcases List.mem_cons.mp hq with z | hq
      · subst z; exact of_decide_eq_true (say.facts (f := .exm "BadWish" "BadInput" false) (List.mem_iff_getElem?.mpr ⟨111, rfl⟩))
      rcases List.mem_cons.mp hq with z | hq
      · subst z; exact of_decide_eq_true (say.facts (f := .exm "BadWish" "BadNumber" false) (List.mem_iff_getElem?.mpr ⟨114, rfl⟩))
      rcases List.mem_cons.mp hq with z | hq
      · subst z; exact of_decide_eq_true (say.facts (f := .exm "BadWish" "BadSights" false) (List.mem_iff_getElem?.mpr ⟨112, rfl⟩))
      rcases List.mem_cons.mp hq with z | hq
      · subst z; exact of_decide_eq_true (say.facts (f := .exm "BadWish" "BadWay" false) (List.mem_iff_getElem?.mpr ⟨109, rfl⟩))
      rcases List.mem_cons.mp hq with z | hq
      · subst z; exact of_decide_eq_true (say.facts (f := .exm "BadWish" "BadWish" true) (List.mem_iff_getElem?.mpr ⟨110, rfl⟩))
      rcases List.mem_cons.mp hq with z | hq
      · subst z; exact of_decide_eq_true (say.facts (f := .exm "BadWish" "DeckError" true) (List.mem_iff_getElem?.mpr ⟨108, rfl⟩))
      cases hq
    rcases List.mem_append.mp hp with hp | hq
    rotate_left
    · unfold exr_BadWay at hq
      rcases List.mem_cons.mp hq with z | hq
      · subst z; exact of_decide_eq_true (say.facts (f := .exm "BadWay" "BadCoins" false) (List.mem_iff_getElem?.mpr ⟨105, rfl⟩))
      rcases List.mem_cons.mp hq with z | hq
      · subst z; exact of_decide_eq_true (say.facts (f := .exm "BadWay" "BadInput" false) (List.mem_iff_getElem?.mpr ⟨103, rfl⟩))
      rcases List.mem_cons.mp hq with z | hq
      · subst z; exact of_decide_eq_true (say.facts (f := .exm "BadWay" "BadNumber" false) (List.mem_iff_getElem?.mpr ⟨106, rfl⟩))
      rcases List.mem_cons.mp hq with z | hq
      · subst z; exact of_decide_eq_true (say.facts (f := .exm "BadWay" "BadSights" false) (List.mem_iff_getElem?.mpr ⟨104, rfl⟩))
      rcases List.mem_cons.mp hq with z | hq
      · subst z; exact of_decide_eq_true (say.facts (f := .exm "BadWay" "BadWay" true) (List.mem_iff_getElem?.mpr ⟨101, rfl⟩))
      rcases List.mem_cons.mp hq with z | hq
      · subst z; exact of_decide_eq_true (say.facts (f := .exm "BadWay" "BadWish" false) (List.mem_iff_getElem?.mpr ⟨102, rfl⟩))
      rcases List.mem_cons.mp hq with z | hq
      · subst z; exact of_decide_eq_true (say.facts (f := .exm "BadWay" "DeckError" true) (List.mem_iff_getElem?.mpr ⟨100, rfl⟩))
      cases hq
    have hq := hp
    skip
    · unfold exr_DeckError at hq
      rcases List.mem_cons.mp hq with z | hq
      · subst z; exact of_decide_eq_true (say.facts (f := .exm "DeckError" "BadCoins" false) (List.mem_iff_getElem?.mpr ⟨97, rfl⟩))
      rcases List.mem_cons.mp hq with z | hq
      · subst z; exact of_decide_eq_true (say.facts (f := .exm "DeckError" "BadInput" false) (List.mem_iff_getElem?.mpr ⟨95, rfl⟩))
      rcases List.mem_cons.mp hq with z | hq
      · subst z; exact of_decide_eq_true (say.facts (f := .exm "DeckError" "BadNumber" false) (List.mem_iff_getElem?.mpr ⟨98, rfl⟩))
      rcases List.mem_cons.mp hq with z | hq
      · subst z; exact of_decide_eq_true (say.facts (f := .exm "DeckError" "BadSights" false) (List.mem_iff_getElem?.mpr ⟨96, rfl⟩))
      rcases List.mem_cons.mp hq with z | hq
      · subst z; exact of_decide_eq_true (say.facts (f := .exm "DeckError" "BadWay" false) (List.mem_iff_getElem?.mpr ⟨93, rfl⟩))
      rcases List.mem_cons.mp hq with z | hq
      · subst z; exact of_decide_eq_true (say.facts (f := .exm "DeckError" "BadWish" false) (List.mem_iff_getElem?.mpr ⟨94, rfl⟩))
      rcases List.mem_cons.mp hq with z | hq
      · subst z; exact of_decide_eq_true (say.facts (f := .exm "DeckError" "DeckError" true) (List.mem_iff_getElem?.mpr ⟨92, rfl⟩))
      cases hq
    ) e
def Tbl (K : PySem.W.Frag) : List (Addr × Str) := [((He.cT K ("law", none)).2, (envOfC "law" (defScope s_law) 0 0 (.ref (He.cT K ("law", none)).1)).qual ++ "<lambda>")]
theorem F__law_taken (say : He.SaysD KH.fa KH.fn K) (ki : K.In h) (nsm : h.Ns mainGlobals mg) (hex : KH.ex K = true) (tb : ∀ p ∈ KH.tf, LamX.TabB base mg (He.cT K p).1 (He.cT K p).2) : DefOk P w K mg base (Tbl K) 1 "_law_taken" 2 m__law_taken := by
  obtain ⟨fd, F⟩ := say.defs (d := KH.d_law_taken) (List.mem_iff_getElem?.mpr ⟨39, rfl⟩)
  exact d_ok (N := N__law_taken) (ps := ["row", "many"]) F (He.glo_ok ki nsm (say.facts (f := .glo "_law_taken") (List.mem_iff_getElem?.mpr ⟨39, rfl⟩))) (fsc_of (by kernel_rfl)) rfl (fun kV doc pm an cdv ct us hl => by match us, hl with | [a, b], _ => kernel_rfl) (fun cdv A outer s H E hr => b__law_taken (gx say ki nsm hex)  cdv A outer s H E hr)
theorem F__law_pick (say : He.SaysD KH.fa KH.fn K) (ki : K.In h) (nsm : h.Ns mainGlobals mg) (hex : KH.ex K = true) (tb : ∀ p ∈ KH.tf, LamX.TabB base mg (He.cT K p).1 (He.cT K p).2) : DefOk P w K mg base (Tbl K) 2 "_law_pick" 2 m__law_pick := by
  obtain ⟨fd, F⟩ := say.defs (d := KH.d_law_pick) (List.mem_iff_getElem?.mpr ⟨40, rfl⟩)
  exact d_ok (N := N__law_pick) (ps := ["row", "things"]) F (He.glo_ok ki nsm (say.facts (f := .glo "_law_pick") (List.mem_iff_getElem?.mpr ⟨40, rfl⟩))) (fsc_of (by kernel_rfl)) rfl (fun kV doc pm an cdv ct us hl => by match us, hl with | [a, b], _ => kernel_rfl) (fun cdv A outer s H E hr => b__law_pick (gx say ki nsm hex) (F__law_taken say ki nsm hex tb) cdv A outer s H E hr)
theorem T__law_word (say : He.SaysD KH.fa KH.fn K) (ki : K.In h) (nsm : h.Ns mainGlobals mg) (hex : KH.ex K = true) : ToldOk P w K mg base (Tbl K) "_law_word" 2 g__law_word := by
  obtain ⟨fd, F⟩ := say.defs (d := KH.d_law_word) (List.mem_iff_getElem?.mpr ⟨41, rfl⟩)
  exact t_ok (N := N__law_word) (a := "work") F (He.glo_ok ki nsm (say.facts (f := .glo "_law_word") (List.mem_iff_getElem?.mpr ⟨41, rfl⟩))) (fsc_of (by kernel_rfl)) rfl rfl (by first | exact .inl rfl | exact .inr (.inl rfl) | exact .inr (.inr rfl)) (by decide) (by decide) (fun kV doc pm an cdv ct us hl => by match us, hl with | [a], _ => kernel_rfl) (fun X hK hM cdv => by
    subst hK hM
    exact b__law_word X (gx say ki nsm hex))
theorem F_is_integer (say : He.SaysD KH.fa KH.fn K) (ki : K.In h) (nsm : h.Ns mainGlobals mg) (hex : KH.ex K = true) (tb : ∀ p ∈ KH.tf, LamX.TabB base mg (He.cT K p).1 (He.cT K p).2) : DefOk P w K mg base (Tbl K) 1 "is_integer" 1 m_is_integer := by
  obtain ⟨fd, F⟩ := say.defs (d := KH.dis_integer) (List.mem_iff_getElem?.mpr ⟨0, rfl⟩)
  exact d_ok (N := N_is_integer) (ps := ["value"]) F (He.glo_ok ki nsm (say.facts (f := .glo "is_integer") (List.mem_iff_getElem?.mpr ⟨0, rfl⟩))) (fsc_of (by kernel_rfl)) rfl (fun kV doc pm an cdv ct us hl => by match us, hl with | [a], _ => kernel_rfl) (fun cdv A outer s H E hr => b_is_integer (gx say ki nsm hex)  cdv A outer s H E hr)
theorem F_is_number (say : He.SaysD KH.fa KH.fn K) (ki : K.In h) (nsm : h.Ns mainGlobals mg) (hex : KH.ex K = true) (tb : ∀ p ∈ KH.tf, LamX.TabB base mg (He.cT K p).1 (He.cT K p).2) : DefOk P w K mg base (Tbl K) 2 "is_number" 3 m_is_number := by
  obtain ⟨fd, F⟩ := say.defs (d := KH.dis_number) (List.mem_iff_getElem?.mpr ⟨1, rfl⟩)
  exact d_ok (N := N_is_number) (ps := ["value", "least", "most"]) F (He.glo_ok ki nsm (say.facts (f := .glo "is_number") (List.mem_iff_getElem?.mpr ⟨1, rfl⟩))) (fsc_of (by kernel_rfl)) rfl (fun kV doc pm an cdv ct us hl => by match us, hl with | [a, b, c], _ => kernel_rfl) (fun cdv A outer s H E hr => b_is_number (gx say ki nsm hex) (F_is_integer say ki nsm hex tb) cdv A outer s H E hr)
theorem F_is_tuple (say : He.SaysD KH.fa KH.fn K) (ki : K.In h) (nsm : h.Ns mainGlobals mg) (hex : KH.ex K = true) (tb : ∀ p ∈ KH.tf, LamX.TabB base mg (He.cT K p).1 (He.cT K p).2) : DefOk P w K mg base (Tbl K) 1 "is_tuple" 3 m_is_tuple := by
  obtain ⟨fd, F⟩ := say.defs (d := KH.dis_tuple) (List.mem_iff_getElem?.mpr ⟨2, rfl⟩)
  exact d_ok (N := N_is_tuple) (ps := ["value", "least", "most"]) F (He.glo_ok ki nsm (say.facts (f := .glo "is_tuple") (List.mem_iff_getElem?.mpr ⟨2, rfl⟩))) (fsc_of (by kernel_rfl)) rfl (fun kV doc pm an cdv ct us hl => by match us, hl with | [a, b, c], _ => kernel_rfl) (fun cdv A outer s H E hr => b_is_tuple (gx say ki nsm hex)  cdv A outer s H E hr)
theorem F_are_bits (say : He.SaysD KH.fa KH.fn K) (ki : K.In h) (nsm : h.Ns mainGlobals mg) (hex : KH.ex K = true) (tb : ∀ p ∈ KH.tf, LamX.TabB base mg (He.cT K p).1 (He.cT K p).2) : DefOk P w K mg base (Tbl K) 3 "are_bits" 3 m_are_bits := by
  obtain ⟨fd, F⟩ := say.defs (d := KH.dare_bits) (List.mem_iff_getElem?.mpr ⟨3, rfl⟩)
  exact d_ok (N := N_are_bits) (ps := ["value", "least", "most"]) F (He.glo_ok ki nsm (say.facts (f := .glo "are_bits") (List.mem_iff_getElem?.mpr ⟨3, rfl⟩))) (fsc_of (by kernel_rfl)) rfl (fun kV doc pm an cdv ct us hl => by match us, hl with | [a, b, c], _ => kernel_rfl) (fun cdv A outer s H E hr => b_are_bits (gx say ki nsm hex) (F_is_tuple say ki nsm hex tb) (F_is_number say ki nsm hex tb) cdv A outer s H E hr)
theorem F_head_fault (say : He.SaysD KH.fa KH.fn K) (ki : K.In h) (nsm : h.Ns mainGlobals mg) (hex : KH.ex K = true) (tb : ∀ p ∈ KH.tf, LamX.TabB base mg (He.cT K p).1 (He.cT K p).2) : DefOk P w K mg base (Tbl K) 4 "head_fault" 2 m_head_fault := by
  obtain ⟨fd, F⟩ := say.defs (d := KH.dhead_fault) (List.mem_iff_getElem?.mpr ⟨16, rfl⟩)
  exact d_ok (N := N_head_fault) (ps := ["bits", "helps"]) F (He.glo_ok ki nsm (say.facts (f := .glo "head_fault") (List.mem_iff_getElem?.mpr ⟨16, rfl⟩))) (fsc_of (by kernel_rfl)) rfl (fun kV doc pm an cdv ct us hl => by match us, hl with | [a, b], _ => kernel_rfl) (fun cdv A outer s H E hr => b_head_fault (gx say ki nsm hex) (F_is_number say ki nsm hex tb) (F_are_bits say ki nsm hex tb) cdv A outer s H E hr)
theorem F_are_places (say : He.SaysD KH.fa KH.fn K) (ki : K.In h) (nsm : h.Ns mainGlobals mg) (hex : KH.ex K = true) (tb : ∀ p ∈ KH.tf, LamX.TabB base mg (He.cT K p).1 (He.cT K p).2) : DefOk P w K mg base (Tbl K) 3 "are_places" 2 m_are_places := by
  obtain ⟨fd, F⟩ := say.defs (d := KH.dare_places) (List.mem_iff_getElem?.mpr ⟨4, rfl⟩)
  exact d_ok (N := N_are_places) (ps := ["value", "cards"]) F (He.glo_ok ki nsm (say.facts (f := .glo "are_places") (List.mem_iff_getElem?.mpr ⟨4, rfl⟩))) (fsc_of (by kernel_rfl)) rfl (fun kV doc pm an cdv ct us hl => by match us, hl with | [a, b], _ => kernel_rfl) (fun cdv A outer s H E hr => b_are_places (gx say ki nsm hex) (F_is_number say ki nsm hex tb) cdv A outer s H E hr)
theorem F_is_order (say : He.SaysD KH.fa KH.fn K) (ki : K.In h) (nsm : h.Ns mainGlobals mg) (hex : KH.ex K = true) (tb : ∀ p ∈ KH.tf, LamX.TabB base mg (He.cT K p).1 (He.cT K p).2) : DefOk P w K mg base (Tbl K) 4 "is_order" 2 m_is_order := by
  obtain ⟨fd, F⟩ := say.defs (d := KH.dis_order) (List.mem_iff_getElem?.mpr ⟨5, rfl⟩)
  exact d_ok (N := N_is_order) (ps := ["value", "cards"]) F (He.glo_ok ki nsm (say.facts (f := .glo "is_order") (List.mem_iff_getElem?.mpr ⟨5, rfl⟩))) (fsc_of (by kernel_rfl)) rfl (fun kV doc pm an cdv ct us hl => by match us, hl with | [a, b], _ => kernel_rfl) (fun cdv A outer s H E hr => b_is_order (gx say ki nsm hex) (F_are_places say ki nsm hex tb) cdv A outer s H E hr)
theorem F_is_move (say : He.SaysD KH.fa KH.fn K) (ki : K.In h) (nsm : h.Ns mainGlobals mg) (hex : KH.ex K = true) (tb : ∀ p ∈ KH.tf, LamX.TabB base mg (He.cT K p).1 (He.cT K p).2) : DefOk P w K mg base (Tbl K) 5 "is_move" 3 m_is_move := by
  obtain ⟨fd, F⟩ := say.defs (d := KH.dis_move) (List.mem_iff_getElem?.mpr ⟨18, rfl⟩)
  exact d_ok (N := N_is_move) (ps := ["node", "cards", "nodes"]) F (He.glo_ok ki nsm (say.facts (f := .glo "is_move") (List.mem_iff_getElem?.mpr ⟨18, rfl⟩))) (fsc_of (by kernel_rfl)) rfl (fun kV doc pm an cdv ct us hl => by match us, hl with | [a, b, c], _ => kernel_rfl) (fun cdv A outer s H E hr => b_is_move (gx say ki nsm hex) (F_is_order say ki nsm hex tb) (F_is_number say ki nsm hex tb) cdv A outer s H E hr)
theorem F_rises (say : He.SaysD KH.fa KH.fn K) (ki : K.In h) (nsm : h.Ns mainGlobals mg) (hex : KH.ex K = true) (tb : ∀ p ∈ KH.tf, LamX.TabB base mg (He.cT K p).1 (He.cT K p).2) : DefOk P w K mg base (Tbl K) 1 "rises" 1 m_rises := by
  obtain ⟨fd, F⟩ := say.defs (d := KH.drises) (List.mem_iff_getElem?.mpr ⟨7, rfl⟩)
  exact d_ok (N := N_rises) (ps := ["values"]) F (He.glo_ok ki nsm (say.facts (f := .glo "rises") (List.mem_iff_getElem?.mpr ⟨7, rfl⟩))) (fsc_of (by kernel_rfl)) rfl (fun kV doc pm an cdv ct us hl => by match us, hl with | [a], _ => kernel_rfl) (fun cdv A outer s H E hr => b_rises (gx say ki nsm hex)  cdv A outer s H E hr)
theorem F_are_orders (say : He.SaysD KH.fa KH.fn K) (ki : K.In h) (nsm : h.Ns mainGlobals mg) (hex : KH.ex K = true) (tb : ∀ p ∈ KH.tf, LamX.TabB base mg (He.cT K p).1 (He.cT K p).2) : DefOk P w K mg base (Tbl K) 5 "are_orders" 2 m_are_orders := by
  obtain ⟨fd, F⟩ := say.defs (d := KH.dare_orders) (List.mem_iff_getElem?.mpr ⟨6, rfl⟩)
  exact d_ok (N := N_are_orders) (ps := ["value", "cards"]) F (He.glo_ok ki nsm (say.facts (f := .glo "are_orders") (List.mem_iff_getElem?.mpr ⟨6, rfl⟩))) (fsc_of (by kernel_rfl)) rfl (fun kV doc pm an cdv ct us hl => by match us, hl with | [a, b], _ => kernel_rfl) (fun cdv A outer s H E hr => b_are_orders (gx say ki nsm hex) (F_is_tuple say ki nsm hex tb) (F_is_order say ki nsm hex tb) (F_rises say ki nsm hex tb) cdv A outer s H E hr)
theorem F_is_shuffle (say : He.SaysD KH.fa KH.fn K) (ki : K.In h) (nsm : h.Ns mainGlobals mg) (hex : KH.ex K = true) (tb : ∀ p ∈ KH.tf, LamX.TabB base mg (He.cT K p).1 (He.cT K p).2) : DefOk P w K mg base (Tbl K) 6 "is_shuffle" 3 m_is_shuffle := by
  obtain ⟨fd, F⟩ := say.defs (d := KH.dis_shuffle) (List.mem_iff_getElem?.mpr ⟨19, rfl⟩)
  exact d_ok (N := N_is_shuffle) (ps := ["node", "cards", "nodes"]) F (He.glo_ok ki nsm (say.facts (f := .glo "is_shuffle") (List.mem_iff_getElem?.mpr ⟨19, rfl⟩))) (fsc_of (by kernel_rfl)) rfl (fun kV doc pm an cdv ct us hl => by match us, hl with | [a, b, c], _ => kernel_rfl) (fun cdv A outer s H E hr => b_is_shuffle (gx say ki nsm hex) (F_are_orders say ki nsm hex tb) (F_is_number say ki nsm hex tb) cdv A outer s H E hr)
theorem F_is_sight_way (say : He.SaysD KH.fa KH.fn K) (ki : K.In h) (nsm : h.Ns mainGlobals mg) (hex : KH.ex K = true) (tb : ∀ p ∈ KH.tf, LamX.TabB base mg (He.cT K p).1 (He.cT K p).2) : DefOk P w K mg base (Tbl K) 4 "is_sight_way" 3 m_is_sight_way := by
  obtain ⟨fd, F⟩ := say.defs (d := KH.dis_sight_way) (List.mem_iff_getElem?.mpr ⟨21, rfl⟩)
  exact d_ok (N := N_is_sight_way) (ps := ["value", "places", "nodes"]) F (He.glo_ok ki nsm (say.facts (f := .glo "is_sight_way") (List.mem_iff_getElem?.mpr ⟨21, rfl⟩))) (fsc_of (by kernel_rfl)) rfl (fun kV doc pm an cdv ct us hl => by match us, hl with | [a, b, c], _ => kernel_rfl) (fun cdv A outer s H E hr => b_is_sight_way (gx say ki nsm hex) (F_is_tuple say ki nsm hex tb) (F_are_bits say ki nsm hex tb) (F_is_number say ki nsm hex tb) cdv A outer s H E hr)
theorem F_is_turn (say : He.SaysD KH.fa KH.fn K) (ki : K.In h) (nsm : h.Ns mainGlobals mg) (hex : KH.ex K = true) (tb : ∀ p ∈ KH.tf, LamX.TabB base mg (He.cT K p).1 (He.cT K p).2) : DefOk P w K mg base (Tbl K) 5 "is_turn" 3 m_is_turn := by
  obtain ⟨fd, F⟩ := say.defs (d := KH.dis_turn) (List.mem_iff_getElem?.mpr ⟨20, rfl⟩)
  exact d_ok (N := N_is_turn) (ps := ["node", "cards", "nodes"]) F (He.glo_ok ki nsm (say.facts (f := .glo "is_turn") (List.mem_iff_getElem?.mpr ⟨20, rfl⟩))) (fsc_of (by kernel_rfl)) rfl (fun kV doc pm an cdv ct us hl => by match us, hl with | [a, b, c], _ => kernel_rfl) (fun cdv A outer s H E hr => b_is_turn (gx say ki nsm hex) (F_are_places say ki nsm hex tb) (F_rises say ki nsm hex tb) (F_is_sight_way say ki nsm hex tb) cdv A outer s H E hr)
theorem F_is_lay (say : He.SaysD KH.fa KH.fn K) (ki : K.In h) (nsm : h.Ns mainGlobals mg) (hex : KH.ex K = true) (tb : ∀ p ∈ KH.tf, LamX.TabB base mg (He.cT K p).1 (He.cT K p).2) : DefOk P w K mg base (Tbl K) 4 "is_lay" 2 m_is_lay := by
  obtain ⟨fd, F⟩ := say.defs (d := KH.dis_lay) (List.mem_iff_getElem?.mpr ⟨22, rfl⟩)
  exact d_ok (N := N_is_lay) (ps := ["node", "cards"]) F (He.glo_ok ki nsm (say.facts (f := .glo "is_lay") (List.mem_iff_getElem?.mpr ⟨22, rfl⟩))) (fsc_of (by kernel_rfl)) rfl (fun kV doc pm an cdv ct us hl => by match us, hl with | [a, b], _ => kernel_rfl) (fun cdv A outer s H E hr => b_is_lay (gx say ki nsm hex) (F_is_tuple say ki nsm hex tb) (F_are_places say ki nsm hex tb) cdv A outer s H E hr)
theorem F_is_node (say : He.SaysD KH.fa KH.fn K) (ki : K.In h) (nsm : h.Ns mainGlobals mg) (hex : KH.ex K = true) (tb : ∀ p ∈ KH.tf, LamX.TabB base mg (He.cT K p).1 (He.cT K p).2) : DefOk P w K mg base (Tbl K) 7 "is_node" 3 m_is_node := by
  obtain ⟨fd, F⟩ := say.defs (d := KH.dis_node) (List.mem_iff_getElem?.mpr ⟨17, rfl⟩)
  exact d_ok (N := N_is_node) (ps := ["value", "cards", "nodes"]) F (He.glo_ok ki nsm (say.facts (f := .glo "is_node") (List.mem_iff_getElem?.mpr ⟨17, rfl⟩))) (fsc_of (by kernel_rfl)) rfl (fun kV doc pm an cdv ct us hl => by match us, hl with | [a, b, c], _ => kernel_rfl) (fun cdv A outer s H E hr => b_is_node (gx say ki nsm hex) (F_is_tuple say ki nsm hex tb) (F_is_move say ki nsm hex tb) (F_is_shuffle say ki nsm hex tb) (F_is_turn say ki nsm hex tb) (F_is_lay say ki nsm hex tb) (F_are_bits say ki nsm hex tb) cdv A outer s H E hr)
theorem F_is_end (say : He.SaysD KH.fa KH.fn K) (ki : K.In h) (nsm : h.Ns mainGlobals mg) (hex : KH.ex K = true) (tb : ∀ p ∈ KH.tf, LamX.TabB base mg (He.cT K p).1 (He.cT K p).2) : DefOk P w K mg base (Tbl K) 1 "is_end" 1 m_is_end := by
  obtain ⟨fd, F⟩ := say.defs (d := KH.dis_end) (List.mem_iff_getElem?.mpr ⟨14, rfl⟩)
  exact d_ok (N := N_is_end) (ps := ["node"]) F (He.glo_ok ki nsm (say.facts (f := .glo "is_end") (List.mem_iff_getElem?.mpr ⟨14, rfl⟩))) (fsc_of (by kernel_rfl)) rfl (fun kV doc pm an cdv ct us hl => by match us, hl with | [a], _ => kernel_rfl) (fun cdv A outer s H E hr => b_is_end (gx say ki nsm hex)  cdv A outer s H E hr)
theorem F_way_fault (say : He.SaysD KH.fa KH.fn K) (ki : K.In h) (nsm : h.Ns mainGlobals mg) (hex : KH.ex K = true) (tb : ∀ p ∈ KH.tf, LamX.TabB base mg (He.cT K p).1 (He.cT K p).2) : DefOk P w K mg base (Tbl K) 8 "way_fault" 1 m_way_fault := by
  obtain ⟨fd, F⟩ := say.defs (d := KH.dway_fault) (List.mem_iff_getElem?.mpr ⟨15, rfl⟩)
  exact d_ok (N := N_way_fault) (ps := ["value"]) F (He.glo_ok ki nsm (say.facts (f := .glo "way_fault") (List.mem_iff_getElem?.mpr ⟨15, rfl⟩))) (fsc_of (by kernel_rfl)) rfl (fun kV doc pm an cdv ct us hl => by match us, hl with | [a], _ => kernel_rfl) (fun cdv A outer s H E hr => b_way_fault (gx say ki nsm hex) (F_is_tuple say ki nsm hex tb) (F_head_fault say ki nsm hex tb) (F_is_node say ki nsm hex tb) (F_is_end say ki nsm hex tb) cdv A outer s H E hr)
theorem F_is_way (say : He.SaysD KH.fa KH.fn K) (ki : K.In h) (nsm : h.Ns mainGlobals mg) (hex : KH.ex K = true) (tb : ∀ p ∈ KH.tf, LamX.TabB base mg (He.cT K p).1 (He.cT K p).2) : DefOk P w K mg base (Tbl K) 9 "is_way" 1 m_is_way := by
  obtain ⟨fd, F⟩ := say.defs (d := KH.dis_way) (List.mem_iff_getElem?.mpr ⟨8, rfl⟩)
  exact d_ok (N := N_is_way) (ps := ["value"]) F (He.glo_ok ki nsm (say.facts (f := .glo "is_way") (List.mem_iff_getElem?.mpr ⟨8, rfl⟩))) (fsc_of (by kernel_rfl)) rfl (fun kV doc pm an cdv ct us hl => by match us, hl with | [a], _ => kernel_rfl) (fun cdv A outer s H E hr => b_is_way (gx say ki nsm hex) (F_way_fault say ki nsm hex tb) cdv A outer s H E hr)
theorem I_BadWay (say : He.SaysD KH.fa KH.fn K) (ki : K.In h) (nsm : h.Ns mainGlobals mg) (hex : KH.ex K = true) : IniOk P w K mg base 1 "BadWay" ["word", "node"] := by
  obtain ⟨fd, F⟩ := say.defs (d := KH.dBadWay___init__) (List.mem_iff_getElem?.mpr ⟨43, rfl⟩)
  exact ini2_ok (N := ["self", "word", "node"]) (v0 := "self") (v1 := "word") (v2 := "node") (ini_BadWay hex) (He.glo_ok ki nsm (say.facts (f := .glo "BadWay") (List.mem_iff_getElem?.mpr ⟨44, rfl⟩))) (He.eqO_ok (say.facts (f := .noat "BadWay" "word") (List.mem_iff_getElem?.mpr ⟨89, rfl⟩))) (He.eqO_ok (say.facts (f := .noat "BadWay" "node") (List.mem_iff_getElem?.mpr ⟨90, rfl⟩))) F (fsc_of (by kernel_rfl)) rfl (by first | exact .inl rfl | exact .inr (.inl rfl) | exact .inr (.inr rfl)) (by first | exact .inl rfl | exact .inr (.inl rfl) | exact .inr (.inr rfl)) (by first | exact .inl rfl | exact .inr (.inl rfl) | exact .inr (.inr rfl)) (by decide) (by decide) (by decide) (fun kV doc pm an cdv ct us hl => by match us, hl with | [a, b, c], _ => kernel_rfl)
theorem F_check_way (say : He.SaysD KH.fa KH.fn K) (ki : K.In h) (nsm : h.Ns mainGlobals mg) (hex : KH.ex K = true) (tb : ∀ p ∈ KH.tf, LamX.TabB base mg (He.cT K p).1 (He.cT K p).2) : DefOk P w K mg base (Tbl K) 9 "check_way" 1 m_check_way := by
  obtain ⟨fd, F⟩ := say.defs (d := KH.dcheck_way) (List.mem_iff_getElem?.mpr ⟨11, rfl⟩)
  exact d_ok (N := N_check_way) (ps := ["value"]) F (He.glo_ok ki nsm (say.facts (f := .glo "check_way") (List.mem_iff_getElem?.mpr ⟨11, rfl⟩))) (fsc_of (by kernel_rfl)) rfl (fun kV doc pm an cdv ct us hl => by match us, hl with | [a], _ => kernel_rfl) (fun cdv A outer s H E hr => b_check_way (gx say ki nsm hex) (F_way_fault say ki nsm hex tb) (I_BadWay say ki nsm hex) cdv A outer s H E hr)
theorem F_inputs (say : He.SaysD KH.fa KH.fn K) (ki : K.In h) (nsm : h.Ns mainGlobals mg) (hex : KH.ex K = true) (tb : ∀ p ∈ KH.tf, LamX.TabB base mg (He.cT K p).1 (He.cT K p).2) : DefOk P w K mg base (Tbl K) 10 "inputs" 1 m_inputs := by
  obtain ⟨fd, F⟩ := say.defs (d := KH.dinputs) (List.mem_iff_getElem?.mpr ⟨9, rfl⟩)
  exact d_ok (N := N_inputs) (ps := ["way"]) F (He.glo_ok ki nsm (say.facts (f := .glo "inputs") (List.mem_iff_getElem?.mpr ⟨9, rfl⟩))) (fsc_of (by kernel_rfl)) rfl (fun kV doc pm an cdv ct us hl => by match us, hl with | [a], _ => kernel_rfl) (fun cdv A outer s H E hr => b_inputs (gx say ki nsm hex) (F_check_way say ki nsm hex tb) cdv A outer s H E hr)
theorem F_written (say : He.SaysD KH.fa KH.fn K) (ki : K.In h) (nsm : h.Ns mainGlobals mg) (hex : KH.ex K = true) (tb : ∀ p ∈ KH.tf, LamX.TabB base mg (He.cT K p).1 (He.cT K p).2) : DefOk P w K mg base (Tbl K) 10 "written" 1 m_written := by
  obtain ⟨fd, F⟩ := say.defs (d := KH.dwritten) (List.mem_iff_getElem?.mpr ⟨38, rfl⟩)
  exact d_ok (N := N_written) (ps := ["way"]) F (He.glo_ok ki nsm (say.facts (f := .glo "written") (List.mem_iff_getElem?.mpr ⟨38, rfl⟩))) (fsc_of (by kernel_rfl)) rfl (fun kV doc pm an cdv ct us hl => by match us, hl with | [a], _ => kernel_rfl) (fun cdv A outer s H E hr => b_written (gx say ki nsm hex) (F_check_way say ki nsm hex tb) cdv A outer s H E hr)
theorem F_check_input (say : He.SaysD KH.fa KH.fn K) (ki : K.In h) (nsm : h.Ns mainGlobals mg) (hex : KH.ex K = true) (tb : ∀ p ∈ KH.tf, LamX.TabB base mg (He.cT K p).1 (He.cT K p).2) : DefOk P w K mg base (Tbl K) 4 "check_input" 2 m_check_input := by
  obtain ⟨fd, F⟩ := say.defs (d := KH.dcheck_input) (List.mem_iff_getElem?.mpr ⟨12, rfl⟩)
  exact d_ok (N := N_check_input) (ps := ["way", "value"]) F (He.glo_ok ki nsm (say.facts (f := .glo "check_input") (List.mem_iff_getElem?.mpr ⟨12, rfl⟩))) (fsc_of (by kernel_rfl)) rfl (fun kV doc pm an cdv ct us hl => by match us, hl with | [a, b], _ => kernel_rfl) (fun cdv A outer s H E hr => b_check_input (gx say ki nsm hex) (F_are_bits say ki nsm hex tb) cdv A outer s H E hr)
theorem F_first_row (say : He.SaysD KH.fa KH.fn K) (ki : K.In h) (nsm : h.Ns mainGlobals mg) (hex : KH.ex K = true) (tb : ∀ p ∈ KH.tf, LamX.TabB base mg (He.cT K p).1 (He.cT K p).2) : DefOk P w K mg base (Tbl K) 10 "first_row" 2 m_first_row := by
  obtain ⟨fd, F⟩ := say.defs (d := KH.dfirst_row) (List.mem_iff_getElem?.mpr ⟨10, rfl⟩)
  exact d_ok (N := N_first_row) (ps := ["way", "one"]) F (He.glo_ok ki nsm (say.facts (f := .glo "first_row") (List.mem_iff_getElem?.mpr ⟨10, rfl⟩))) (fsc_of (by kernel_rfl)) rfl (fun kV doc pm an cdv ct us hl => by match us, hl with | [a, b], _ => kernel_rfl) (fun cdv A outer s H E hr => b_first_row (gx say ki nsm hex) (F_check_way say ki nsm hex tb) (F_check_input say ki nsm hex tb) cdv A outer s H E hr)
theorem F_mean_turns (say : He.SaysD KH.fa KH.fn K) (ki : K.In h) (nsm : h.Ns mainGlobals mg) (hex : KH.ex K = true) (tb : ∀ p ∈ KH.tf, LamX.TabB base mg (He.cT K p).1 (He.cT K p).2) : DefOk P w K mg base (Tbl K) 10 "mean_turns" 2 m_mean_turns := by
  obtain ⟨fd, F⟩ := say.defs (d := KH.dmean_turns) (List.mem_iff_getElem?.mpr ⟨34, rfl⟩)
  exact d_ok (N := N_mean_turns) (ps := ["way", "one"]) F (He.glo_ok ki nsm (say.facts (f := .glo "mean_turns") (List.mem_iff_getElem?.mpr ⟨34, rfl⟩))) (fsc_of (by kernel_rfl)) rfl (fun kV doc pm an cdv ct us hl => by match us, hl with | [a, b], _ => kernel_rfl) (fun cdv A outer s H E hr => b_mean_turns (gx say ki nsm hex) (F_check_way say ki nsm hex tb) (F_check_input say ki nsm hex tb) cdv A outer s H E hr)
theorem F_mean_shuffles (say : He.SaysD KH.fa KH.fn K) (ki : K.In h) (nsm : h.Ns mainGlobals mg) (hex : KH.ex K = true) (tb : ∀ p ∈ KH.tf, LamX.TabB base mg (He.cT K p).1 (He.cT K p).2) : DefOk P w K mg base (Tbl K) 10 "mean_shuffles" 2 m_mean_shuffles := by
  obtain ⟨fd, F⟩ := say.defs (d := KH.dmean_shuffles) (List.mem_iff_getElem?.mpr ⟨35, rfl⟩)
  exact d_ok (N := N_mean_shuffles) (ps := ["way", "one"]) F (He.glo_ok ki nsm (say.facts (f := .glo "mean_shuffles") (List.mem_iff_getElem?.mpr ⟨35, rfl⟩))) (fsc_of (by kernel_rfl)) rfl (fun kV doc pm an cdv ct us hl => by match us, hl with | [a, b], _ => kernel_rfl) (fun cdv A outer s H E hr => b_mean_shuffles (gx say ki nsm hex) (F_check_way say ki nsm hex tb) (F_check_input say ki nsm hex tb) cdv A outer s H E hr)
theorem F_check_wish (say : He.SaysD KH.fa KH.fn K) (ki : K.In h) (nsm : h.Ns mainGlobals mg) (hex : KH.ex K = true) (tb : ∀ p ∈ KH.tf, LamX.TabB base mg (He.cT K p).1 (He.cT K p).2) : DefOk P w K mg base (Tbl K) 4 "check_wish" 2 m_check_wish := by
  obtain ⟨fd, F⟩ := say.defs (d := KH.dcheck_wish) (List.mem_iff_getElem?.mpr ⟨13, rfl⟩)
  exact d_ok (N := N_check_wish) (ps := ["bits", "value"]) F (He.glo_ok ki nsm (say.facts (f := .glo "check_wish") (List.mem_iff_getElem?.mpr ⟨13, rfl⟩))) (fsc_of (by kernel_rfl)) rfl (fun kV doc pm an cdv ct us hl => by match us, hl with | [a, b], _ => kernel_rfl) (fun cdv A outer s H E hr => b_check_wish (gx say ki nsm hex) (F_is_tuple say ki nsm hex tb) (F_are_bits say ki nsm hex tb) cdv A outer s H E hr)
theorem F_shows_sound (say : He.SaysD KH.fa KH.fn K) (ki : K.In h) (nsm : h.Ns mainGlobals mg) (hex : KH.ex K = true) (tb : ∀ p ∈ KH.tf, LamX.TabB base mg (He.cT K p).1 (He.cT K p).2) : DefOk P w K mg base (Tbl K) 10 "shows_sound" 3 m_shows_sound := by
  obtain ⟨fd, F⟩ := say.defs (d := KH.dshows_sound) (List.mem_iff_getElem?.mpr ⟨26, rfl⟩)
  exact d_ok (N := N_shows_sound) (ps := ["way", "wish", "value"]) F (He.glo_ok ki nsm (say.facts (f := .glo "shows_sound") (List.mem_iff_getElem?.mpr ⟨26, rfl⟩))) (fsc_of (by kernel_rfl)) rfl (fun kV doc pm an cdv ct us hl => by match us, hl with | [a, b, c], _ => kernel_rfl) (fun cdv A outer s H E hr => b_shows_sound (gx say ki nsm hex) (F_check_way say ki nsm hex tb) (F_check_wish say ki nsm hex tb) cdv A outer s H E hr)
theorem F_sound_table (say : He.SaysD KH.fa KH.fn K) (ki : K.In h) (nsm : h.Ns mainGlobals mg) (hex : KH.ex K = true) (tb : ∀ p ∈ KH.tf, LamX.TabB base mg (He.cT K p).1 (He.cT K p).2) : DefOk P w K mg base (Tbl K) 10 "sound_table" 2 m_sound_table := by
  obtain ⟨fd, F⟩ := say.defs (d := KH.dsound_table) (List.mem_iff_getElem?.mpr ⟨24, rfl⟩)
  exact d_ok (N := N_sound_table) (ps := ["way", "wish"]) F (He.glo_ok ki nsm (say.facts (f := .glo "sound_table") (List.mem_iff_getElem?.mpr ⟨24, rfl⟩))) (fsc_of (by kernel_rfl)) rfl (fun kV doc pm an cdv ct us hl => by match us, hl with | [a, b], _ => kernel_rfl) (fun cdv A outer s H E hr => b_sound_table (gx say ki nsm hex) (F_check_way say ki nsm hex tb) (F_check_wish say ki nsm hex tb) cdv A outer s H E hr)
theorem F_is_sound (say : He.SaysD KH.fa KH.fn K) (ki : K.In h) (nsm : h.Ns mainGlobals mg) (hex : KH.ex K = true) (tb : ∀ p ∈ KH.tf, LamX.TabB base mg (He.cT K p).1 (He.cT K p).2) : DefOk P w K mg base (Tbl K) 11 "is_sound" 2 m_is_sound := by
  obtain ⟨fd, F⟩ := say.defs (d := KH.dis_sound) (List.mem_iff_getElem?.mpr ⟨23, rfl⟩)
  exact d_ok (N := N_is_sound) (ps := ["way", "wish"]) F (He.glo_ok ki nsm (say.facts (f := .glo "is_sound") (List.mem_iff_getElem?.mpr ⟨23, rfl⟩))) (fsc_of (by kernel_rfl)) rfl (fun kV doc pm an cdv ct us hl => by match us, hl with | [a, b], _ => kernel_rfl) (fun cdv A outer s H E hr => b_is_sound (gx say ki nsm hex) (F_sound_table say ki nsm hex tb) cdv A outer s H E hr)
theorem F_ends_surely (say : He.SaysD KH.fa KH.fn K) (ki : K.In h) (nsm : h.Ns mainGlobals mg) (hex : KH.ex K = true) (tb : ∀ p ∈ KH.tf, LamX.TabB base mg (He.cT K p).1 (He.cT K p).2) : DefOk P w K mg base (Tbl K) 10 "ends_surely" 2 m_ends_surely := by
  obtain ⟨fd, F⟩ := say.defs (d := KH.dends_surely) (List.mem_iff_getElem?.mpr ⟨25, rfl⟩)
  exact d_ok (N := N_ends_surely) (ps := ["way", "wish"]) F (He.glo_ok ki nsm (say.facts (f := .glo "ends_surely") (List.mem_iff_getElem?.mpr ⟨25, rfl⟩))) (fsc_of (by kernel_rfl)) rfl (fun kV doc pm an cdv ct us hl => by match us, hl with | [a, b], _ => kernel_rfl) (fun cdv A outer s H E hr => b_ends_surely (gx say ki nsm hex) (F_check_way say ki nsm hex tb) (F_check_wish say ki nsm hex tb) cdv A outer s H E hr)
theorem F_sight_chance (say : He.SaysD KH.fa KH.fn K) (ki : K.In h) (nsm : h.Ns mainGlobals mg) (hex : KH.ex K = true) (tb : ∀ p ∈ KH.tf, LamX.TabB base mg (He.cT K p).1 (He.cT K p).2) : DefOk P w K mg base (Tbl K) 10 "sight_chance" 3 m_sight_chance := by
  obtain ⟨fd, F⟩ := say.defs (d := KH.dsight_chance) (List.mem_iff_getElem?.mpr ⟨30, rfl⟩)
  exact d_ok (N := N_sight_chance) (ps := ["way", "one", "sights"]) F (He.glo_ok ki nsm (say.facts (f := .glo "sight_chance") (List.mem_iff_getElem?.mpr ⟨30, rfl⟩))) (fsc_of (by kernel_rfl)) rfl (fun kV doc pm an cdv ct us hl => by match us, hl with | [a, b, c], _ => kernel_rfl) (fun cdv A outer s H E hr => b_sight_chance (gx say ki nsm hex) (F_check_way say ki nsm hex tb) (F_check_input say ki nsm hex tb) (F_is_tuple say ki nsm hex tb) (F_are_bits say ki nsm hex tb) cdv A outer s H E hr)
theorem F_check_many (say : He.SaysD KH.fa KH.fn K) (ki : K.In h) (nsm : h.Ns mainGlobals mg) (hex : KH.ex K = true) (tb : ∀ p ∈ KH.tf, LamX.TabB base mg (He.cT K p).1 (He.cT K p).2) : DefOk P w K mg base (Tbl K) 3 "check_many" 1 m_check_many := by
  obtain ⟨fd, F⟩ := say.defs (d := KH.dcheck_many) (List.mem_iff_getElem?.mpr ⟨37, rfl⟩)
  exact d_ok (N := N_check_many) (ps := ["value"]) F (He.glo_ok ki nsm (say.facts (f := .glo "check_many") (List.mem_iff_getElem?.mpr ⟨37, rfl⟩))) (fsc_of (by kernel_rfl)) rfl (fun kV doc pm an cdv ct us hl => by match us, hl with | [a], _ => kernel_rfl) (fun cdv A outer s H E hr => b_check_many (gx say ki nsm hex) (F_is_number say ki nsm hex tb) cdv A outer s H E hr)
theorem F_check_watch (say : He.SaysD KH.fa KH.fn K) (ki : K.In h) (nsm : h.Ns mainGlobals mg) (hex : KH.ex K = true) (tb : ∀ p ∈ KH.tf, LamX.TabB base mg (He.cT K p).1 (He.cT K p).2) : DefOk P w K mg base (Tbl K) 10 "check_watch" 3 m_check_watch := by
  obtain ⟨fd, F⟩ := say.defs (d := KH.dcheck_watch) (List.mem_iff_getElem?.mpr ⟨36, rfl⟩)
  exact d_ok (N := N_check_watch) (ps := ["way", "wish", "many"]) F (He.glo_ok ki nsm (say.facts (f := .glo "check_watch") (List.mem_iff_getElem?.mpr ⟨36, rfl⟩))) (fsc_of (by kernel_rfl)) rfl (fun kV doc pm an cdv ct us hl => by match us, hl with | [a, b, c], _ => kernel_rfl) (fun cdv A outer s H E hr => b_check_watch (gx say ki nsm hex) (F_check_way say ki nsm hex tb) (F_check_wish say ki nsm hex tb) (F_check_many say ki nsm hex tb) cdv A outer s H E hr)
theorem F_first_leak (say : He.SaysD KH.fa KH.fn K) (ki : K.In h) (nsm : h.Ns mainGlobals mg) (hex : KH.ex K = true) (tb : ∀ p ∈ KH.tf, LamX.TabB base mg (He.cT K p).1 (He.cT K p).2) : DefOk P w K mg base (Tbl K) 11 "first_leak" 3 m_first_leak := by
  obtain ⟨fd, F⟩ := say.defs (d := KH.dfirst_leak) (List.mem_iff_getElem?.mpr ⟨31, rfl⟩)
  exact d_ok (N := N_first_leak) (ps := ["way", "wish", "many"]) F (He.glo_ok ki nsm (say.facts (f := .glo "first_leak") (List.mem_iff_getElem?.mpr ⟨31, rfl⟩))) (fsc_of (by kernel_rfl)) rfl (fun kV doc pm an cdv ct us hl => by match us, hl with | [a, b, c], _ => kernel_rfl) (fun cdv A outer s H E hr => b_first_leak (gx say ki nsm hex) (F_check_watch say ki nsm hex tb) cdv A outer s H E hr)
theorem F_first_wrong (say : He.SaysD KH.fa KH.fn K) (ki : K.In h) (nsm : h.Ns mainGlobals mg) (hex : KH.ex K = true) (tb : ∀ p ∈ KH.tf, LamX.TabB base mg (He.cT K p).1 (He.cT K p).2) : DefOk P w K mg base (Tbl K) 11 "first_wrong" 3 m_first_wrong := by
  obtain ⟨fd, F⟩ := say.defs (d := KH.dfirst_wrong) (List.mem_iff_getElem?.mpr ⟨32, rfl⟩)
  exact d_ok (N := N_first_wrong) (ps := ["way", "wish", "many"]) F (He.glo_ok ki nsm (say.facts (f := .glo "first_wrong") (List.mem_iff_getElem?.mpr ⟨32, rfl⟩))) (fsc_of (by kernel_rfl)) rfl (fun kV doc pm an cdv ct us hl => by match us, hl with | [a, b, c], _ => kernel_rfl) (fun cdv A outer s H E hr => b_first_wrong (gx say ki nsm hex) (F_check_watch say ki nsm hex tb) cdv A outer s H E hr)
theorem F_check_hand (say : He.SaysD KH.fa KH.fn K) (ki : K.In h) (nsm : h.Ns mainGlobals mg) (hex : KH.ex K = true) (tb : ∀ p ∈ KH.tf, LamX.TabB base mg (He.cT K p).1 (He.cT K p).2) : DefOk P w K mg base (Tbl K) 10 "check_hand" 3 m_check_hand := by
  obtain ⟨fd, F⟩ := say.defs (d := KH.dcheck_hand) (List.mem_iff_getElem?.mpr ⟨29, rfl⟩)
  exact d_ok (N := N_check_hand) (ps := ["way", "one", "coins"]) F (He.glo_ok ki nsm (say.facts (f := .glo "check_hand") (List.mem_iff_getElem?.mpr ⟨29, rfl⟩))) (fsc_of (by kernel_rfl)) rfl (fun kV doc pm an cdv ct us hl => by match us, hl with | [a, b, c], _ => kernel_rfl) (fun cdv A outer s H E hr => b_check_hand (gx say ki nsm hex) (F_check_way say ki nsm hex tb) (F_check_input say ki nsm hex tb) (F_is_tuple say ki nsm hex tb) (F_is_number say ki nsm hex tb) cdv A outer s H E hr)
theorem F_hand (say : He.SaysD KH.fa KH.fn K) (ki : K.In h) (nsm : h.Ns mainGlobals mg) (hex : KH.ex K = true) (tb : ∀ p ∈ KH.tf, LamX.TabB base mg (He.cT K p).1 (He.cT K p).2) : DefOk P w K mg base (Tbl K) 11 "hand" 3 m_hand := by
  obtain ⟨fd, F⟩ := say.defs (d := KH.dhand) (List.mem_iff_getElem?.mpr ⟨27, rfl⟩)
  exact d_ok (N := N_hand) (ps := ["way", "one", "coins"]) F (He.glo_ok ki nsm (say.facts (f := .glo "hand") (List.mem_iff_getElem?.mpr ⟨27, rfl⟩))) (fsc_of (by kernel_rfl)) rfl (fun kV doc pm an cdv ct us hl => by match us, hl with | [a, b, c], _ => kernel_rfl) (fun cdv A outer s H E hr => b_hand (gx say ki nsm hex) (F_check_hand say ki nsm hex tb) cdv A outer s H E hr)
theorem F_shuffles_passed (say : He.SaysD KH.fa KH.fn K) (ki : K.In h) (nsm : h.Ns mainGlobals mg) (hex : KH.ex K = true) (tb : ∀ p ∈ KH.tf, LamX.TabB base mg (He.cT K p).1 (He.cT K p).2) : DefOk P w K mg base (Tbl K) 11 "shuffles_passed" 3 m_shuffles_passed := by
  obtain ⟨fd, F⟩ := say.defs (d := KH.dshuffles_passed) (List.mem_iff_getElem?.mpr ⟨28, rfl⟩)
  exact d_ok (N := N_shuffles_passed) (ps := ["way", "one", "coins"]) F (He.glo_ok ki nsm (say.facts (f := .glo "shuffles_passed") (List.mem_iff_getElem?.mpr ⟨28, rfl⟩))) (fsc_of (by kernel_rfl)) rfl (fun kV doc pm an cdv ct us hl => by match us, hl with | [a, b, c], _ => kernel_rfl) (fun cdv A outer s H E hr => b_shuffles_passed (gx say ki nsm hex) (F_check_hand say ki nsm hex tb) cdv A outer s H E hr)
theorem F_best_guess (say : He.SaysD KH.fa KH.fn K) (ki : K.In h) (nsm : h.Ns mainGlobals mg) (hex : KH.ex K = true) (tb : ∀ p ∈ KH.tf, LamX.TabB base mg (He.cT K p).1 (He.cT K p).2) : DefOk P w K mg base (Tbl K) 10 "best_guess" 4 m_best_guess := by
  obtain ⟨fd, F⟩ := say.defs (d := KH.dbest_guess) (List.mem_iff_getElem?.mpr ⟨33, rfl⟩)
  exact d_ok (N := N_best_guess) (ps := ["way", "one", "other", "many"]) F (He.glo_ok ki nsm (say.facts (f := .glo "best_guess") (List.mem_iff_getElem?.mpr ⟨33, rfl⟩))) (fsc_of (by kernel_rfl)) rfl (fun kV doc pm an cdv ct us hl => by match us, hl with | [a, b, c, d], _ => kernel_rfl) (fun cdv A outer s H E hr => b_best_guess (gx say ki nsm hex) (F_check_way say ki nsm hex tb) (F_check_input say ki nsm hex tb) (F_check_many say ki nsm hex tb) cdv A outer s H E hr)
theorem tbl_law {K : PySem.W.Frag} (hex : KH.ex K = true) : ∀ p ∈ Tbl K, p.1 = (He.cT K ("law", none)).2 → p.2 = (envOfC "law" (defScope s_law) 0 0 (.ref (He.cT K ("law", none)).1)).qual ++ "<lambda>" := by
  intro p hp e
  rcases List.mem_cons.mp hp with z | hp
  · subst z; rfl
  cases hp
theorem FF_law (say : He.SaysD KH.fa KH.fn K) (ki : K.In h) (nsm : h.Ns mainGlobals mg) (hex : KH.ex K = true) : ∃ fd, (∀ (s : Shared) (us : List Value), us.length = 1 → BindsTo s fd ⟨us, []⟩ ((["script"] : List Str).zip us)) ∧ ∀ (base : Heap), (∀ p ∈ KH.tf, LamX.TabB base mg (He.cT K p).1 (He.cT K p).2) → FnOk P w K mg base (L2.CX P w) 14 (He.fAd K ("law", none)) fd ["script"] (SpOf K (Tbl K) 1 m_law) ∧ DefOk P w K mg base (Tbl K) 14 "law" 1 m_law := by
  obtain ⟨fd, F⟩ := say.defs (d := KH.dlaw) (List.mem_iff_getElem?.mpr ⟨42, rfl⟩)
  exact ⟨fd, F.bindsA (ps := ["script"]) (fun kV doc pm an cdv ct us hl => by match us, hl with | [a], _ => kernel_rfl), fun base tb => d_okC (N := N_law) (ps := ["script"]) F (code_of (p := ("law", none)) F) (He.glo_ok ki nsm (say.facts (f := .glo "law") (List.mem_iff_getElem?.mpr ⟨42, rfl⟩))) (fsc_of (by kernel_rfl)) rfl (fun kV doc pm an cdv ct us hl => by match us, hl with | [a], _ => kernel_rfl) (fun A outer s H E hr => b_law (gx say ki nsm hex) (F__law_pick say ki nsm hex tb) (F_is_way say ki nsm hex tb) (F_inputs say ki nsm hex tb) (F_written say ki nsm hex tb) (F_first_row say ki nsm hex tb) (F_is_sound say ki nsm hex tb) (F_sound_table say ki nsm hex tb) (F_ends_surely say ki nsm hex tb) (F_mean_turns say ki nsm hex tb) (F_mean_shuffles say ki nsm hex tb) (F_shows_sound say ki nsm hex tb) (F_sight_chance say ki nsm hex tb) (F_first_leak say ki nsm hex tb) (F_first_wrong say ki nsm hex tb) (F_hand say ki nsm hex tb) (F_shuffles_passed say ki nsm hex tb) (F_best_guess say ki nsm hex tb) (T__law_word say ki nsm hex) (tb _ (List.mem_iff_getElem?.mpr ⟨0, rfl⟩)) (by unfold Tbl; first | exact List.mem_cons_self | exact List.mem_cons_of_mem _ List.mem_cons_self | exact List.mem_cons_of_mem _ (List.mem_cons_of_mem _ List.mem_cons_self)) (tbl_law hex) A outer s H E hr)⟩
theorem F_law (say : He.SaysD KH.fa KH.fn K) (ki : K.In h) (nsm : h.Ns mainGlobals mg) (hex : KH.ex K = true) (tb : ∀ p ∈ KH.tf, LamX.TabB base mg (He.cT K p).1 (He.cT K p).2) : DefOk P w K mg base (Tbl K) 14 "law" 1 m_law := ((FF_law say ki nsm hex).choose_spec.2 base tb).2
end
theorem law_at {w : World} {K : PySem.W.Frag} {h : Heap} {mg : Str → Option Value} {f : Addr} (law_true : ∀ ns : List Int, ns.length ≤ 63 → (∀ z ∈ ns, Builtin.Int.intBits z ≤ 1048576) → ∃ M, m_law [.scr (ns.map D.int)] [] = .ok (.bl true) M)
    (ki : K.In h) (nsm : h.Ns mainGlobals mg) (hfa : mg ("law" : Str) = some (.ref f)) (c : He.SaysX KH.fa KH.fn KH.ts KH.tf KH.ex w h K) :
    LamX.LawAtS PySem.Challenge.rw_silentdecks_k09_ways_refused w K (L2.CX PySem.Challenge.rw_silentdecks_k09_ways_refused.prog w) 14 63 "script" mg f h := by
  have say := c.t.d
  have e := hfa.symm.trans (He.glo_ok ki nsm (say.facts (f := .glo "law") (List.mem_iff_getElem?.mpr ⟨42, rfl⟩)))
  cases e
  obtain ⟨fd, hb, hF⟩ := FF_law (P := PySem.Challenge.rw_silentdecks_k09_ways_refused.prog) (w := w) say ki nsm c.more
  have tT : ∀ {H : Hp}, (∀ p ∈ KH.tf.map (He.cT K), H p.2 = some (.tbl #[])) → ∀ p ∈ Tbl K, H p.1 = some (.tbl #[]) := fun {H} hH p hp => by
    unfold Tbl at hp
    simp only [List.mem_cons, List.not_mem_nil, or_false] at hp
    rcases hp with rfl <;> refine hH (He.cT K _) (List.mem_map_of_mem ?_)
    · exact List.mem_iff_getElem?.mpr ⟨0, rfl⟩
  refine ⟨fd, KH.tf.map (He.cT K), SpOf K (Tbl K) 1 m_law, fun p hp => ?_, fun p hp => ?_, fun p hp => ?_, fun s u => hb s [u] rfl, fun H a ns hl hbits hH hS => sp_law (tT hH) hS (law_true ns hl hbits), fun base _ _ tb => (hF base fun p hp => tb _ (List.mem_map_of_mem hp)).1⟩
  · obtain ⟨q, hq, rfl⟩ := List.mem_map.mp hp
    exact c.empty q hq
  · obtain ⟨q, hq, rfl⟩ := List.mem_map.mp hp
    exact c.out q hq
  · obtain ⟨q, hq, rfl⟩ := List.mem_map.mp hp
    exact PySem.W.codeHd_of_K ki (c.hd q hq)
end KK

set_option Elab.async false
set_option linter.all false
set_option maxRecDepth 100000
set_option maxHeartbeats 0
open PySem PySem.W PySem.Calls PyProof.Rows
theorem PySem.Challenge.cw_silentdecks_k09_ways_refused_holds : PySem.Challenge.rw_silentdecks_k09_ways_refused.Holds := by
  w_on; o_law
  refine HandSHeadRun.head_imp (r := OpenLaw.row PySem.Challenge.rw_silentdecks_k09_ways_refused) (q := KH.qv) (H := KH.hk) (ob := KH.ob) (M := 8000) (loose := KH.loose) (d := HandSHeadRun.topDef (OpenLaw.row PySem.Challenge.rw_silentdecks_k09_ways_refused).prog 133) (kwd := []) KH.ob_eq KH.run
    (by kernel_rfl) (by kernel_rfl) (by kernel_rfl) (by rfl) (by first | assumption | decide +kernel) (by decide +kernel) ⟨rfl, rfl, rfl, rfl, rfl, by decide +kernel⟩ ?hw ?hc
  case hw => w_witness2
  case hc =>
    refine LamX.walk_ofTsE (l := PySem.Challenge.rw_silentdecks_k09_ways_refused) (n := 63) (k := 14) (x := "script") (CX := fun w => L2.CX PySem.Challenge.rw_silentdecks_k09_ways_refused.prog w) rfl (by decide) (by kernel_rfl) ⟨rfl, by decide, by decide⟩ ?F (fun _ _ _ _ _ z => by
      obtain ⟨_, _, _, _, _, _, _, _, _, _, _, _, z⟩ := z
      exact z)
    intro w mg fa h Y G hmg0
    obtain ⟨K, KX, c⟩ := Y
    have hmg : mg ("law" : PySem.Str) = some (.ref fa) := by
      have e : (HandSHeadRun.topDef (OpenLaw.row PySem.Challenge.rw_silentdecks_k09_ways_refused).prog 133).name = ("law" : PySem.Str) := by kernel_rfl
      rw [← e]
      exact hmg0
    exact ⟨K, KX, _root_.KK.law_at (fun ns hl _ => _root_.KK.law_true (ns := ns) hl) KX G hmg c⟩
